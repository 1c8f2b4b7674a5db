/- The digest as plain functions on words and bytes: no program. -/
import Derived.Test.YtnjilfdmplbalaaGreatDoorWords
namespace Go.Proofs.YtnjilfdmplbalaaGreatDoor
open Go.RowKit
namespace Sha
/-- Word i of a block of bytes. -/
def word (bs : Nat → UInt8) (i : Nat) : UInt32 :=
  ushl (bs (4 * i)).toUInt32 24 ||| ushl (bs (4 * i + 1)).toUInt32 16 ||| ushl (bs (4 * i + 2)).toUInt32 8 ||| (bs (4 * i + 3)).toUInt32
def small0 (x : UInt32) : UInt32 := rotr x 7 ^^^ rotr x 18 ^^^ ushr x 3
def small1 (x : UInt32) : UInt32 := rotr x 17 ^^^ rotr x 19 ^^^ ushr x 10
/-- Element i of a list of words. -/
def at_ (l : List UInt32) (i : Nat) : UInt32 := l.getD i 0
/-- The word behind the words of l. -/
def nextW (l : List UInt32) : UInt32 :=
  at_ l (l.length - 16) + small0 (at_ l (l.length - 15)) + at_ l (l.length - 7) + small1 (at_ l (l.length - 2))
def firsts (bs : Nat → UInt8) (k : Nat) : List UInt32 := (List.range k).map (word bs)
def schedTo (bs : Nat → UInt8) : Nat → List UInt32
  | 0 => firsts bs 16
  | k + 1 => schedTo bs k ++ [nextW (schedTo bs k)]
def sched (bs : Nat → UInt8) : List UInt32 := schedTo bs 48
theorem firsts_succ (bs : Nat → UInt8) (k : Nat) : firsts bs (k + 1) = firsts bs k ++ [word bs k] := by simp [firsts, List.range_succ]
theorem firsts_len (bs : Nat → UInt8) (k : Nat) : (firsts bs k).length = k := by simp [firsts]
theorem schedTo_len (bs : Nat → UInt8) (k : Nat) : (schedTo bs k).length = 16 + k := by
  induction k with
  | zero => simp [schedTo, firsts]
  | succ k ih => simp [schedTo, ih]; omega

structure St where
  a : UInt32
  b : UInt32
  c : UInt32
  d : UInt32
  e : UInt32
  f : UInt32
  g : UInt32
  h : UInt32
def ch (e f g : UInt32) : UInt32 := e &&& f ^^^ ~~~e &&& g
def maj (a b c : UInt32) : UInt32 := a &&& b ^^^ a &&& c ^^^ b &&& c
def big0 (a : UInt32) : UInt32 := rotr a 2 ^^^ rotr a 13 ^^^ rotr a 22
def big1 (e : UInt32) : UInt32 := rotr e 6 ^^^ rotr e 11 ^^^ rotr e 25
def vv (s : St) (k w : UInt32) : UInt32 := s.h + big1 s.e + ch s.e s.f s.g + k + w
def round (s : St) (k w : UInt32) : St :=
  { a := vv s k w + big0 s.a + maj s.a s.b s.c, b := s.a, c := s.b, d := s.c, e := s.d + vv s k w, f := s.e, g := s.f, h := s.g }
def K : List UInt32 := [
  1116352408, 1899447441, 3049323471, 3921009573, 961987163, 1508970993, 2453635748, 2870763221, 3624381080, 310598401, 607225278, 1426881987, 1925078388, 2162078206, 2614888103, 3248222580,
  3835390401, 4022224774, 264347078, 604807628, 770255983, 1249150122, 1555081692, 1996064986, 2554220882, 2821834349, 2952996808, 3210313671, 3336571891, 3584528711, 113926993, 338241895,
  666307205, 773529912, 1294757372, 1396182291, 1695183700, 1986661051, 2177026350, 2456956037, 2730485921, 2820302411, 3259730800, 3345764771, 3516065817, 3600352804, 4094571909, 275423344,
  430227734, 506948616, 659060556, 883997877, 958139571, 1322822218, 1537002063, 1747873779, 1955562222, 2024104815, 2227730452, 2361852424, 2428436474, 2756734187, 3204031479, 3329325298]
def kAt (i : Nat) : UInt32 := at_ K i
def rounds (ws : List UInt32) : Nat → St → St
  | 0, s => s
  | i + 1, s => round (rounds ws i s) (kAt i) (at_ ws i)
theorem rounds_succ {ws : List UInt32} {k : Nat} {s t : St} (h : t = rounds ws k s) : round t (kAt k) (at_ ws k) = rounds ws (k + 1) s := by
  subst h; rfl
theorem round_eq (t : St) (k w : UInt32) : round t k w =
    ⟨t.h + (rotr t.e 6 ^^^ rotr t.e 11 ^^^ rotr t.e 25) + (t.e &&& t.f ^^^ ~~~t.e &&& t.g) + k + w + (rotr t.a 2 ^^^ rotr t.a 13 ^^^ rotr t.a 22) + (t.a &&& t.b ^^^ t.a &&& t.c ^^^ t.b &&& t.c), t.a, t.b, t.c,
      t.d + (t.h + (rotr t.e 6 ^^^ rotr t.e 11 ^^^ rotr t.e 25) + (t.e &&& t.f ^^^ ~~~t.e &&& t.g) + k + w), t.e, t.f, t.g⟩ := rfl
def addS (s t : St) : St := { a := s.a + t.a, b := s.b + t.b, c := s.c + t.c, d := s.d + t.d, e := s.e + t.e, f := s.f + t.f, g := s.g + t.g, h := s.h + t.h }
/-- The state with a block mixed in. -/
def mixF (s : St) (bs : Nat → UInt8) : St := addS s (rounds (sched bs) 64 s)
def start : St := { a := 1779033703, b := 3144134277, c := 1013904242, d := 2773480762, e := 1359893119, f := 2600822924, g := 528734635, h := 1541459225 }
/-- n blocks of bytes mixed in, one behind the other. -/
def mixAll (bs : Nat → UInt8) : Nat → St → St
  | 0, s => s
  | n + 1, s => mixF (mixAll bs n s) (fun i => bs (64 * n + i))
end Sha
/-- Words as the cells of an array, and what is not yet laid of it. -/
def cellsW (l : List UInt32) (n : Nat) : Array Value := (l.map (fun x => Value.int .u32 (w32 x)) ++ List.replicate (n - l.length) (Value.int .u32 0)).toArray
theorem cellsW_size (l : List UInt32) (n : Nat) (h : l.length ≤ n) : (cellsW l n).size = n := by simp [cellsW]; omega
theorem cellsW_get (l : List UInt32) (n i : Nat) (h : i < l.length) : (cellsW l n)[i]? = some (.int .u32 (w32 (Sha.at_ l i))) := by
  simp [cellsW, List.getElem?_append, h, Sha.at_]
theorem cellsW_rest (l : List UInt32) (n i : Nat) (h : l.length ≤ i) (hn : i < n) : (cellsW l n)[i]? = some (.int .u32 0) := by
  have h2 : i - l.length < n - l.length := by omega
  have h3 : (l.map (fun x => Value.int .u32 (w32 x))).length ≤ i := by simpa using h
  unfold cellsW
  rw [List.getElem?_toArray, List.getElem?_append_right h3, List.length_map, List.getElem?_replicate, if_pos h2]
theorem cellsW_push (l : List UInt32) (n : Nat) (x : UInt32) (h : l.length < n) : (cellsW l n).setIfInBounds l.length (.int .u32 (w32 x)) = cellsW (l ++ [x]) n := by
  have e : n - l.length = (n - (l.length + 1)) + 1 := by omega
  simp [cellsW, e, List.replicate_succ]
theorem cellsW_one (l : List UInt32) (n : Nat) : (cellsW l n).all (·.oneCell') = true := by
  simp only [cellsW, List.all_toArray, List.all_append, List.all_map, List.all_replicate, Bool.and_eq_true]
  exact ⟨by rw [List.all_eq_true]; intro x _; rfl, by split <;> rfl⟩
theorem cellsW_zero (n : Nat) : cellsW [] n = (List.replicate n (Value.int .u32 0)).toArray := by simp [cellsW]
theorem below_setRow {B : Nat} {a w : World} (h : Below B a w) {g : Nat} (hg : B ≤ g) (cs : Array Value) : Below B a (w.setRow g cs) :=
  ⟨h.os, h.tape, h.output, by rw [setRow_size]; exact h.size, fun k hk => (setRow_other w g k cs (by omega)).trans (h.block k hk)⟩
end Go.Proofs.YtnjilfdmplbalaaGreatDoor
