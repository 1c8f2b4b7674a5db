import Derived.Test.YtdildmfjekdlgaaPackAA
import Derived.Maps.RangeRun
import Derived.MapKept
import Derived.WalkKit
import Derived.Laws.BitsAllLaws
import Derived.Test.YtdildmfjekdlgaaRows
import Derived.WalkSpells
import Derived.WalkLawsBesides
import Derived.StillTailTactics
import Derived.Deep.QuietTactic
import Derived.BigQuiet
import Derived.BigRegion
import Derived.Outline
import Derived.Lib.Hide
import Derived.Laws.Rows
import Derived.Laws.OwnMore
import Derived.Laws.AppendOwnNone
import Derived.OwnWalk
import Derived.Lib.SlBytesRow
import Derived.Laws.CopyRow
import Derived.Deep.AppendLies
import Derived.LoopN
import Derived.Deep.Cut
/- Maps whose keys are strings and whose elements are whatever they are, as the heap holds them: filled, looked into, ranged over. Plain facts over any program. -/
namespace Go.Proofs.Ytdildmfjekdlgaa
open Go.RowKit Go Go.ChangeMaps
/-- The entries that hold some pairs, laid in their order, none taken away. -/
def entsFrom : List (ByteArray × Value) → Nat → List MapEntry
  | [], _ => []
  | p :: l, i => ⟨.string p.1, p.2, i⟩ :: entsFrom l (i + 1)
/-- The map in block b holds the pairs l. -/
def MapAt (w : World) (b : Nat) (l : List (ByteArray × Value)) : Prop := w.heap[b]? = some (.map (entsFrom l 0).toArray l.length)
theorem MapAt.lt {w : World} {b : Nat} {l : List (ByteArray × Value)} (h : MapAt w b l) : b < w.heap.size := (Array.getElem?_eq_some_iff.1 h).1
theorem MapAt.but {w w' : World} {b D : Nat} {l : List (ByteArray × Value)} (h : MapAt w b l) (hb : But D w w') (hne : b ≠ D) : MapAt w' b l := (hb.block b h.lt hne).trans h
theorem MapAt.later {w w' : World} {b : Nat} {l : List (ByteArray × Value)} (h : MapAt w b l) (hb : Below w.heap.size w w') : MapAt w' b l := (hb.block b h.lt).trans h
section
variable {P : Program} {t kt et : TypeId} {w : World} {b : Nat} {l : List (ByteArray × Value)}
/-- An iterator in block r over the map in block b, of n pairs; those that have come. -/
def IterAt (w : World) (r b n : Nat) (seen : Array Nat) : Prop := w.heap[r]? = some (.mapIter (some b) n seen n)
theorem IterAt.lt {w : World} {r b n : Nat} {seen : Array Nat} (h : IterAt w r b n seen) : r < w.heap.size := (Array.getElem?_eq_some_iff.1 h).1
theorem IterAt.but {w w' : World} {r b n D : Nat} {seen : Array Nat} (h : IterAt w r b n seen) (hb : But D w w') (hne : r ≠ D) : IterAt w' r b n seen := (hb.block r h.lt hne).trans h
theorem IterAt.later {w w' : World} {r b n : Nat} {seen : Array Nat} (h : IterAt w r b n seen) (hb : Below w.heap.size w w') : IterAt w' r b n seen := (hb.block r h.lt).trans h
end
end Go.Proofs.Ytdildmfjekdlgaa
/- The walks of package wire: Int, Text, Ints. -/
namespace Go.Proofs.Ytdildmfjekdlgaa
open Go.RowKit
/-- What a string and a list are written as. -/
def textB (s : List UInt8) : List UInt8 := be8 (s.length : Int) ++ s
def listB (l : List Int) : List UInt8 := l.flatMap be8
def intsB (l : List Int) : List UInt8 := be8 (l.length : Int) ++ listB l
/-- A slice of bytes that a call hands back: it reads as us; what was there is as it was. -/
def GivesB (w : World) (us : List UInt8) (e : Ending) (w' : World) : Prop := ∃ A m c, e = .returned (.slice A m c) ∧ m = us.length ∧ BRow w' A m c us ∧ New w w' A ∧ Below w.heap.size w w'
theorem BOwn.gives {w w' : World} {v : Value} {us : List UInt8} (h : BOwn w' w.heap.size v us) (hb : Below w.heap.size w w') : GivesB w us (.returned v) w' := by
  obtain ⟨A, c, rfl, hr⟩ := h.row
  exact ⟨A, _, c, rfl, rfl, hr, fun ad hA => (by subst hA; exact World.ownsRow.lt h _ rfl), hb⟩
/-- The call returns bytes of its own. -/
def GivesO (w : World) (us : List UInt8) (e : Ending) (w' : World) : Prop := ∃ v, e = .returned v ∧ BOwn w' w.heap.size v us ∧ Below w.heap.size w w'
theorem GivesO.gives {w w' : World} {us : List UInt8} {e : Ending} (h : GivesO w us e w') : GivesB w us e w' := by
  obtain ⟨v, rfl, ho, hb⟩ := h; exact ho.gives hb
end Go.Proofs.Ytdildmfjekdlgaa
/- The walks of statement.numbers and Bytes. -/
namespace Go.Proofs.Ytdildmfjekdlgaa
open Go.RowKit
theorem BOwn.later {w w' : World} {B : Nat} {v : Value} {us : List UInt8} (h : BOwn w B v us) (hb : Below w.heap.size w w') : BOwn w' B v us := own_below h hb fun k hk => (World.ownsRow.lt h k hk).2
theorem BOwn.from {w : World} {B B' : Nat} {v : Value} {us : List UInt8} (h : BOwn w B v us) (hb : B' ≤ B) : BOwn w B' v us := own_mono h hb
/-- The bytes of a pin, of pins; the body bytes of a statement. -/
def pinBs (p : PinD) : List UInt8 := listB [p.author, p.height] ++ textB p.digest.data.toList
def pinsBs (l : List PinD) : List UInt8 := l.flatMap pinBs
def bodyB (s : Stm) : List UInt8 :=
  listB [s.author, s.number] ++ textB s.prev.data.toList ++ listB [s.time, s.kind, s.a, s.b, s.c] ++ intsB s.list ++ listB [(s.pins.length : Int)] ++ pinsBs s.pins ++ textB s.body.data.toList
/-- Not too much to be written. -/
structure Small (s : Stm) : Prop where
  prev : s.prev.size ≤ 1000
  list : s.list.length ≤ 1000
  pins : s.pins.length ≤ 1000
  all : (pinsBs s.pins).length ≤ 1500000
  body : s.body.size ≤ 100000
  dig : s.dig.size ≤ 1200000
section
variable {P : Program} {ops : Array Oper} {a : Act} {o : Oper} {rest : List Oper} {Q : Exit → Act → World → Prop}
end
/-- Below G nothing turns, nor does block p. -/
def Keeps (G p : Nat) (a b : World) : Prop := Below G a b ∧ b.heap[p]? = a.heap[p]?
theorem Keeps.refl (G p : Nat) (a : World) : Keeps G p a a := ⟨Below.refl _ _, rfl⟩
theorem Keeps.trans {G p : Nat} {a b c : World} (h : Keeps G p a b) (k : Keeps G p b c) : Keeps G p a c := ⟨h.1.trans k.1, k.2.trans h.2⟩
theorem Keeps.of {G p : Nat} {a b : World} (h : Below a.heap.size a b) (hG : G ≤ a.heap.size) (hp : p < a.heap.size) : Keeps G p a b := ⟨h.mono hG, h.block p hp⟩
end Go.Proofs.Ytdildmfjekdlgaa
/- Words of 32 bits and bytes as the walk spells them: plain facts, no program. -/
namespace Go.Proofs.Ytdildmfjekdlgaa

/-- A word of 32 bits, as the integer that the model holds. -/
def w32 (x : UInt32) : Int := (x.toNat : Int)
def ushr (x : UInt32) (n : Nat) : UInt32 := UInt32.ofNat (x.toNat / 2 ^ n)
def ushl (x : UInt32) (n : Nat) : UInt32 := UInt32.ofNat (x.toNat * 2 ^ n)
def rotr (x : UInt32) (n : Nat) : UInt32 := ushl x (32 - n) ||| ushr x n

theorem w32_lt (x : UInt32) : x.toNat < 4294967296 := x.toNat_lt
theorem w32_of (n : Nat) (h : n < 4294967296) : w32 (UInt32.ofNat n) = (n : Int) := by
  unfold w32; rw [UInt32.toNat_ofNat_of_lt' (by simpa using h)]
theorem bits_and (x y : UInt32) : bits .and .u32 (w32 x) (w32 y) = w32 (x &&& y) := by
  unfold w32; rw [u32_and_nat _ _ (w32_lt x) (w32_lt y), UInt32.toNat_and]
theorem bits_or (x y : UInt32) : bits .or .u32 (w32 x) (w32 y) = w32 (x ||| y) := by
  unfold w32; rw [u32_or_nat _ _ (w32_lt x) (w32_lt y), UInt32.toNat_or]
theorem bits_xor (x y : UInt32) : bits .xor .u32 (w32 x) (w32 y) = w32 (x ^^^ y) := by
  unfold w32; rw [u32_xor_nat _ _ (w32_lt x) (w32_lt y), UInt32.toNat_xor]
theorem bits_not (x : UInt32) : bits .xor .u32 4294967295 (w32 x) = w32 (~~~x) := by
  rw [show (4294967295 : Int) = w32 4294967295 from rfl, bits_xor]
  have h : (4294967295 : UInt32) ^^^ x = ~~~x := by
    apply UInt32.toBitVec_inj.1
    have : (4294967295 : UInt32).toBitVec = BitVec.allOnes 32 := by decide
    rw [UInt32.toBitVec_xor, this, UInt32.toBitVec_not, BitVec.allOnes_xor]
  rw [h]
theorem wrap_add (x y : UInt32) : IntKind.u32.wrap (w32 x + w32 y) = w32 (x + y) := by
  rw [IntKind.wrap_u32]; unfold w32; rw [UInt32.toNat_add]; omega
theorem run_shr (yk : IntKind) (x : UInt32) (n : Int) (h0 : 0 ≤ n) : Op.shift .shr .u32 (w32 x) yk n = pure (.int .u32 (w32 (ushr x n.toNat))) := by
  rw [shift_shr_any _ _ _ _ h0]
  have hx := w32_lt x
  have e : x.toNat / 2 ^ min n.toNat 32 = x.toNat / 2 ^ n.toNat := by
    rcases Nat.le_total n.toNat 32 with h | h
    · rw [Nat.min_eq_left h]
    · rw [Nat.min_eq_right h, Nat.div_eq_of_lt (by simpa using hx), Nat.div_eq_of_lt]
      exact Nat.lt_of_lt_of_le (by simpa using hx) (Nat.pow_le_pow_right (by omega) h)
  have hlt : x.toNat / 2 ^ n.toNat < 4294967296 := Nat.lt_of_le_of_lt (Nat.div_le_self _ _) hx
  unfold ushr
  rw [w32_of _ hlt, ← e]
  unfold w32
  simp [IntKind.bits]
theorem run_shl (yk : IntKind) (x : UInt32) (n : Int) (h0 : 0 ≤ n) : Op.shift .shl .u32 (w32 x) yk n = pure (.int .u32 (w32 (ushl x n.toNat))) := by
  rw [shift_shl_any _ _ _ _ h0]
  have e : x.toNat * 2 ^ min n.toNat 32 % 4294967296 = x.toNat * 2 ^ n.toNat % 4294967296 := by
    rcases Nat.le_total n.toNat 32 with h | h
    · rw [Nat.min_eq_left h]
    · rw [Nat.min_eq_right h, show n.toNat = 32 + (n.toNat - 32) by omega, Nat.pow_add]
      have : (2 : Nat) ^ 32 = 4294967296 := by decide
      rw [this, ← Nat.mul_assoc, Nat.mul_mod_left, Nat.mul_right_comm, Nat.mul_mod_left]
  unfold ushl w32
  rw [IntKind.wrap_u32, UInt32.toNat_ofNat', show (2 : Nat) ^ 32 = 4294967296 by decide, ← e]
  simp [IntKind.bits]
theorem wrap_byte (b : UInt8) : IntKind.u32.wrap (w8 b) = w32 b.toUInt32 := by
  rw [IntKind.wrap_u32]; unfold w8 w32; have := w8_lt b; rw [UInt8.toNat_toUInt32]; omega
theorem wrap_low (x : UInt32) : IntKind.u8.wrap (w32 x) = w8 x.toUInt8 := by
  rw [IntKind.wrap_u8]; unfold w8 w32; rw [UInt32.toNat_toUInt8]; omega
attribute [go_sem] bits_and bits_or bits_xor bits_not wrap_add wrap_byte wrap_low
theorem bits_not_max (x : UInt32) : bits .xor .u32 IntKind.u32.max (w32 x) = w32 (~~~x) := bits_not x
theorem bits_not_if (x : UInt32) : bits .xor .u32 (if IntKind.u32.signed = true then -1 else IntKind.u32.max) (w32 x) = w32 (~~~x) := bits_not x
attribute [go_sem] bits_not_max bits_not_if
attribute [go_sem ↓] run_shr run_shl
end Go.Proofs.Ytdildmfjekdlgaa
/- The walks of the two functions that turn a word. -/
namespace Go.Proofs.Ytdildmfjekdlgaa
open Go.RowKit
end Go.Proofs.Ytdildmfjekdlgaa
/- The digest as plain functions on words and bytes: no program. -/
namespace Go.Proofs.Ytdildmfjekdlgaa
open Go.RowKit
namespace Sha
/-- Word i of a block of bytes. -/
def word (bs : Nat → UInt8) (i : Nat) : UInt32 :=
  ushl (bs (4 * i)).toUInt32 24 ||| ushl (bs (4 * i + 1)).toUInt32 16 ||| ushl (bs (4 * i + 2)).toUInt32 8 ||| (bs (4 * i + 3)).toUInt32
def small0 (x : UInt32) : UInt32 := rotr x 7 ^^^ rotr x 18 ^^^ ushr x 3
def small1 (x : UInt32) : UInt32 := rotr x 17 ^^^ rotr x 19 ^^^ ushr x 10
/-- Element i of a list of words. -/
def at_ (l : List UInt32) (i : Nat) : UInt32 := l.getD i 0
/-- The word behind the words of l. -/
def nextW (l : List UInt32) : UInt32 :=
  at_ l (l.length - 16) + small0 (at_ l (l.length - 15)) + at_ l (l.length - 7) + small1 (at_ l (l.length - 2))
def firsts (bs : Nat → UInt8) (k : Nat) : List UInt32 := (List.range k).map (word bs)
def schedTo (bs : Nat → UInt8) : Nat → List UInt32
  | 0 => firsts bs 16
  | k + 1 => schedTo bs k ++ [nextW (schedTo bs k)]
def sched (bs : Nat → UInt8) : List UInt32 := schedTo bs 48
structure St where
  a : UInt32
  b : UInt32
  c : UInt32
  d : UInt32
  e : UInt32
  f : UInt32
  g : UInt32
  h : UInt32
def ch (e f g : UInt32) : UInt32 := e &&& f ^^^ ~~~e &&& g
def maj (a b c : UInt32) : UInt32 := a &&& b ^^^ a &&& c ^^^ b &&& c
def big0 (a : UInt32) : UInt32 := rotr a 2 ^^^ rotr a 13 ^^^ rotr a 22
def big1 (e : UInt32) : UInt32 := rotr e 6 ^^^ rotr e 11 ^^^ rotr e 25
def vv (s : St) (k w : UInt32) : UInt32 := s.h + big1 s.e + ch s.e s.f s.g + k + w
def round (s : St) (k w : UInt32) : St :=
  { a := vv s k w + big0 s.a + maj s.a s.b s.c, b := s.a, c := s.b, d := s.c, e := s.d + vv s k w, f := s.e, g := s.f, h := s.g }
def K : List UInt32 := [
  1116352408, 1899447441, 3049323471, 3921009573, 961987163, 1508970993, 2453635748, 2870763221, 3624381080, 310598401, 607225278, 1426881987, 1925078388, 2162078206, 2614888103, 3248222580,
  3835390401, 4022224774, 264347078, 604807628, 770255983, 1249150122, 1555081692, 1996064986, 2554220882, 2821834349, 2952996808, 3210313671, 3336571891, 3584528711, 113926993, 338241895,
  666307205, 773529912, 1294757372, 1396182291, 1695183700, 1986661051, 2177026350, 2456956037, 2730485921, 2820302411, 3259730800, 3345764771, 3516065817, 3600352804, 4094571909, 275423344,
  430227734, 506948616, 659060556, 883997877, 958139571, 1322822218, 1537002063, 1747873779, 1955562222, 2024104815, 2227730452, 2361852424, 2428436474, 2756734187, 3204031479, 3329325298]
def kAt (i : Nat) : UInt32 := at_ K i
def rounds (ws : List UInt32) : Nat → St → St
  | 0, s => s
  | i + 1, s => round (rounds ws i s) (kAt i) (at_ ws i)
def addS (s t : St) : St := { a := s.a + t.a, b := s.b + t.b, c := s.c + t.c, d := s.d + t.d, e := s.e + t.e, f := s.f + t.f, g := s.g + t.g, h := s.h + t.h }
/-- The state with a block mixed in. -/
def mixF (s : St) (bs : Nat → UInt8) : St := addS s (rounds (sched bs) 64 s)
def start : St := { a := 1779033703, b := 3144134277, c := 1013904242, d := 2773480762, e := 1359893119, f := 2600822924, g := 528734635, h := 1541459225 }
end Sha
/-- Words as the cells of an array, and what is not yet laid of it. -/
def cellsW (l : List UInt32) (n : Nat) : Array Value := (l.map (fun x => Value.int .u32 (w32 x)) ++ List.replicate (n - l.length) (Value.int .u32 0)).toArray
theorem cellsW_push (l : List UInt32) (n : Nat) (x : UInt32) (h : l.length < n) : (cellsW l n).setIfInBounds l.length (.int .u32 (w32 x)) = cellsW (l ++ [x]) n := by
  have e : n - l.length = (n - (l.length + 1)) + 1 := by omega
  simp [cellsW, e, List.replicate_succ]
theorem below_setRow {B : Nat} {a w : World} (h : Below B a w) {g : Nat} (hg : B ≤ g) (cs : Array Value) : Below B a (w.setRow g cs) :=
  ⟨h.os, h.tape, h.output, by rw [setRow_size]; exact h.size, fun k hk => (setRow_other w g k cs (by omega)).trans (h.block k hk)⟩
end Go.Proofs.Ytdildmfjekdlgaa
/- The walk of digest.schedule. -/
namespace Go.Proofs.Ytdildmfjekdlgaa
open Go.RowKit
end Go.Proofs.Ytdildmfjekdlgaa
/- The walk of digest.mix. -/
namespace Go.Proofs.Ytdildmfjekdlgaa
open Go.RowKit
end Go.Proofs.Ytdildmfjekdlgaa
/- Memory that a call itself makes, byte by byte: plain facts over any program. -/
namespace Go.Proofs.Ytdildmfjekdlgaa
open Go.RowKit
/-- What the call itself has made of bytes: slice v holds the bytes l, in a block from B on. -/
def Owns (w : World) (B : Nat) (e : TypeId) (v : Value) (l : List UInt8) : Prop := w.ownsRow B e 1 v l.length (bytesV l)
theorem Owns.alloc {w : World} {B : Nat} {e : TypeId} {v : Value} {l : List UInt8} (h : Owns w B e v l) (o : Obj) : Owns (w.alloc o) B e v l := World.ownsRow.alloc h o
theorem Owns.below {w w' : World} {B B' : Nat} {e : TypeId} {v : Value} {l : List UInt8} (h : Owns w B e v l) (hb : Below B' w w') (hv : ∀ k, v.ownBlock = some k → k < B') : Owns w' B e v l := by
  refine ⟨h.1, ?_⟩
  rcases h.2 with hn | ⟨g, cap, cur, rfl, hg, hgg, rest⟩
  · exact .inl hn
  · exact .inr ⟨g, cap, cur, rfl, hg, (hb.block g (hv g rfl)).trans hgg, rest⟩
/-- The cells of a slice of bytes that the call itself has made. -/
theorem Owns.form {w : World} {B : Nat} {e : TypeId} {v : Value} {l : List UInt8} (h : Owns w B e v l) (hn : 0 < l.length) :
    ∃ g cap, v = .slice (some ⟨g, 0, none⟩) l.length cap ∧ B ≤ g ∧ g < w.heap.size ∧ l.length ≤ cap ∧ cap ≤ maxLen ∧ ∀ i, i < l.length → w.cell? ⟨g, i, none⟩ = some (bv (l.getD i 0)) := by
  rcases h.2 with ⟨_, h0⟩ | ⟨g, cap, cur, rfl, hg, hgg, h1, h2, _⟩
  · omega
  · refine ⟨g, cap, rfl, hg, (Array.getElem?_eq_some_iff.1 hgg).1, h1, h2, fun i hi => ?_⟩
    have := World.ownsRow.cellAt (size := 1) h i (by omega)
    rw [this, bytesV_get _ _ hi]
section
variable {P : Program} {ops : Array Oper} {rest : List Oper} {o : Oper} {a : Act} {Q : Exit → Act → World → Prop}
end
/-- A slice value that reads as the bytes us; nil and empty slices too. -/
structure SliceAt (w : World) (A : Option Addr) (n c : Nat) (us : List UInt8) : Prop where
  len : us.length = n
  cap : n ≤ c
  nil : A = none → n = 0 ∧ c = 0
  some_ : ∀ ad, A = some ad → 0 < n → ∃ b off, ad = ⟨b, off, none⟩ ∧ ∀ i, i < n → w.cell? ⟨b, off + i, none⟩ = some (bv (us.getD i 0))
theorem SliceAt.below {w w' : World} {A : Option Addr} {n c : Nat} {us : List UInt8} (h : SliceAt w A n c us) (hb : Below w.heap.size w w') : SliceAt w' A n c us := by
  refine ⟨h.len, h.cap, h.nil, fun ad hA hn => ?_⟩
  obtain ⟨b, off, e, hc⟩ := h.some_ ad hA hn
  refine ⟨b, off, e, fun i hi => ?_⟩
  rw [hb.cell (p := ⟨b, off + i, none⟩) (block_lt_of_cell (hc i hi))]; exact hc i hi
section
variable {P : Program} {ops : Array Oper} {rest : List Oper} {o : Oper} {a : Act} {Q : Exit → Act → World → Prop}
end
/-- Byte k of a number of 8 bytes, the most significant first. -/
def sh8 (v k : Nat) : Nat := v / 2 ^ (56 - 8 * k)
def wideAt (v k : Nat) : UInt8 := UInt8.ofNat (sh8 v k)
def wideTo (v k : Nat) : List UInt8 := (List.range k).map (wideAt v)
def wide (v : Nat) : List UInt8 := wideTo v 8
end Go.Proofs.Ytdildmfjekdlgaa
/- The walks of digest.appendWide and digest.padded. -/
namespace Go.Proofs.Ytdildmfjekdlgaa
open Go.RowKit
/-- The end of a message: what is left of it, a 1, zeros, and its length in bits. -/
def zerosFor (n : Nat) : Nat := if 64 < n + 9 then 119 - n else 55 - n
def padTail (r : List UInt8) (size : Nat) : List UInt8 := r ++ [128] ++ List.replicate (zerosFor r.length) 0 ++ wide (8 * size)
end Go.Proofs.Ytdildmfjekdlgaa
/- The walks of digest.start and digest.text. -/
namespace Go.Proofs.Ytdildmfjekdlgaa
open Go.RowKit
namespace Sha
def toL (s : St) : List UInt32 := [s.a, s.b, s.c, s.d, s.e, s.f, s.g, s.h]
theorem toL_len (s : St) : (toL s).length = 8 := rfl
def bytes4 (x : UInt32) : List UInt8 := [(ushr x 24).toUInt8, (ushr x 16).toUInt8, (ushr x 8).toUInt8, x.toUInt8]
def textTo (l : List UInt32) : Nat → List UInt8
  | 0 => []
  | k + 1 => textTo l k ++ bytes4 (at_ l k)
/-- The first block of a list of bytes. -/
def blk (l : List UInt8) (i : Nat) : UInt8 := (l.take 64).getD i 0
/-- q steps over blocks of bytes, one behind the other; and what is left of the bytes. -/
def eatG (f : St → List UInt8 → St) : Nat → List UInt8 → St → St × List UInt8
  | 0, l, s => (s, l)
  | q + 1, l, s => eatG f q (l.drop 64) (f s l)
/-- A block of bytes mixed into a state. -/
def mixL (s : St) (l : List UInt8) : St := mixF s (blk l)
def eat (q : Nat) (l : List UInt8) (s : St) : St × List UInt8 := eatG mixL q l s
end Sha
end Go.Proofs.Ytdildmfjekdlgaa
/- The walk of digest.Sum. -/
namespace Go.Proofs.Ytdildmfjekdlgaa
open Go.RowKit
end Go.Proofs.Ytdildmfjekdlgaa
/- The two ways to end a message come to the same: plain lists, no walk. -/
namespace Go.Proofs.Ytdildmfjekdlgaa
open Go.RowKit
/-- The digest of a list of n bytes, as digest.Sum makes it. -/
def shaL (m : List UInt8) (n : Nat) : List UInt8 := Sha.textTo (Sha.toL (Sha.eat (if 64 < n % 64 + 9 then 2 else 1) (padTail (Sha.eat (n / 64) m Sha.start).2 n) (Sha.eat (n / 64) m Sha.start).1).1) 8
namespace Sha
end Sha
end Go.Proofs.Ytdildmfjekdlgaa
/- The walks of statement.Digest, rightSeal, Sealed, Seal. -/
namespace Go.Proofs.Ytdildmfjekdlgaa
open Go.RowKit
/-- The digest of a statement. -/
def digS (s : Stm) : ByteArray := strOf (shaL (bodyB s) (bodyB s).length)
/-- Whether the seal is right. -/
def sealedB (s : Stm) : Bool := decide (s.key = s.author) && decide (s.dig = digS s)
/-- A statement with the right seal. -/
def sealOf (s : Stm) : Stm := { s with key := s.author, dig := digS s }
end Go.Proofs.Ytdildmfjekdlgaa
/- Rows of statements that have no lists, and the map of what was found. -/
namespace Go.Proofs.Ytdildmfjekdlgaa
open Go.RowKit
def noStm : Stm := ⟨0, 0, ⟨#[]⟩, 0, 0, 0, 0, 0, [], [], ⟨#[]⟩, 0, ⟨#[]⟩⟩
def cellsS (s : Stm) : List Value := [.int .i64 s.author, .int .i64 s.number, .string s.prev, .int .i64 s.time, .int .i64 s.kind, .int .i64 s.a, .int .i64 s.b, .int .i64 s.c, .slice none 0 0, .slice none 0 0, .string s.body, .int .i64 s.key, .string s.dig]
def stmsC (l : List Stm) : List Value := l.flatMap cellsS
theorem stmsC_len (l : List Stm) : (stmsC l).length = l.length * 13 := by
  induction l with
  | nil => rfl
  | cons s l ih => simp only [stmsC, List.flatMap_cons, List.length_append, List.length_cons] at *; rw [ih]; show 13 + _ = _; omega
theorem stmsC_drop (l : List Stm) : ∀ k, (stmsC l).drop (k * 13) = stmsC (l.drop k) := by
  induction l with
  | nil => intro k; simp [stmsC]
  | cons s l ih =>
    intro k
    cases k with
    | zero => rw [Nat.zero_mul]; rfl
    | succ k =>
      rw [List.drop_succ_cons, ← ih k]
      simp only [stmsC, List.flatMap_cons, cellsS]
      rw [show (k + 1) * 13 = k * 13 + 13 by omega]
      rfl
/-- A slice that reads as statements without lists. -/
def SRow (w : World) (A : Option Addr) (n c : Nat) (l : List Stm) : Prop := Row w A n c 13 (stmsC l)
theorem SRow.len {w : World} {A : Option Addr} {n c : Nat} {l : List Stm} (h : SRow w A n c l) : l.length = n := by
  have := Row.len h; rw [stmsC_len] at this; omega
theorem SRow.later {w w' : World} {A : Option Addr} {n c : Nat} {l : List Stm} (h : SRow w A n c l) (hb : Later w w') : SRow w' A n c l := Row.later h hb
set_option maxHeartbeats 1000000 in
/-- The cells of statement k. -/
theorem SRow.cells {w : World} {A : Option Addr} {n c : Nat} {l : List Stm} (h : SRow w A n c l) (k : Nat) (hk : k < n) :
    ∃ b off, A = some ⟨b, off, none⟩ ∧ w.cell? ⟨b, off + k * 13, none⟩ = some (.int .i64 (l.getD k noStm).author) ∧ w.cell? ⟨b, off + k * 13 + 1, none⟩ = some (.int .i64 (l.getD k noStm).number) ∧ w.cell? ⟨b, off + k * 13 + 2, none⟩ = some (.string (l.getD k noStm).prev) ∧ w.cell? ⟨b, off + k * 13 + 3, none⟩ = some (.int .i64 (l.getD k noStm).time) ∧ w.cell? ⟨b, off + k * 13 + 4, none⟩ = some (.int .i64 (l.getD k noStm).kind) ∧ w.cell? ⟨b, off + k * 13 + 5, none⟩ = some (.int .i64 (l.getD k noStm).a) ∧ w.cell? ⟨b, off + k * 13 + 6, none⟩ = some (.int .i64 (l.getD k noStm).b) ∧ w.cell? ⟨b, off + k * 13 + 7, none⟩ = some (.int .i64 (l.getD k noStm).c) ∧ w.cell? ⟨b, off + k * 13 + 8, none⟩ = some (.slice none 0 0) ∧ w.cell? ⟨b, off + k * 13 + 9, none⟩ = some (.slice none 0 0) ∧ w.cell? ⟨b, off + k * 13 + 10, none⟩ = some (.string (l.getD k noStm).body) ∧ w.cell? ⟨b, off + k * 13 + 11, none⟩ = some (.int .i64 (l.getD k noStm).key) ∧ w.cell? ⟨b, off + k * 13 + 12, none⟩ = some (.string (l.getD k noStm).dig) := by
  obtain ⟨b, off, hA, hc⟩ := Row.form h (by omega)
  have hl := h.len
  have h0 : ∀ j, (stmsC l)[k * 13 + j]? = (stmsC (l.drop k))[j]? := fun j => by rw [← stmsC_drop, List.getElem?_drop]
  have h1 : l.drop k = l.getD k noStm :: l.drop (k + 1) := by
    rw [List.drop_eq_getElem_cons (by omega)]; simp [show k < l.length by omega]
  have h2 : ∀ j, j < 13 → w.cell? ⟨b, off + (k * 13 + j), none⟩ = (cellsS (l.getD k noStm))[j]? := fun j hj => by
    rw [hc _ (by omega), h0, h1]
    show (cellsS (l.getD k noStm) ++ stmsC (l.drop (k + 1)))[j]? = _
    rw [List.getElem?_append_left (by show j < 13; exact hj)]
  exact ⟨b, off, hA, h2 0 (by decide), by rw [Nat.add_assoc]; exact h2 1 (by decide), by rw [Nat.add_assoc]; exact h2 2 (by decide), by rw [Nat.add_assoc]; exact h2 3 (by decide), by rw [Nat.add_assoc]; exact h2 4 (by decide), by rw [Nat.add_assoc]; exact h2 5 (by decide), by rw [Nat.add_assoc]; exact h2 6 (by decide), by rw [Nat.add_assoc]; exact h2 7 (by decide), by rw [Nat.add_assoc]; exact h2 8 (by decide), by rw [Nat.add_assoc]; exact h2 9 (by decide), by rw [Nat.add_assoc]; exact h2 10 (by decide), by rw [Nat.add_assoc]; exact h2 11 (by decide), by rw [Nat.add_assoc]; exact h2 12 (by decide)⟩
/-- Statements of one author, well formed and sealed, no two of one digest. -/
structure Good (au : Int) (l : List Stm) : Prop where
  author : ∀ s ∈ l, s.author = au
  check : ∀ s ∈ l, checkV s = 0
  sealed : ∀ s ∈ l, sealedB s = true
  bare : ∀ s ∈ l, s.list = [] ∧ s.pins = [] ∧ Small s ∧ 0 ≤ s.number ∧ s.number < 200
  nodup : (l.map (·.dig)).Nodup
end Go.Proofs.Ytdildmfjekdlgaa
/- A region that draws its order, where two operations that may make memory come up together: both orders are walked. Plain facts over any program. -/
namespace Go.Proofs.Ytdildmfjekdlgaa
open Go.RowKit Go
section
variable {P : Program} {md : Region.Mode} {F : World → World → Prop}
end
end Go.Proofs.Ytdildmfjekdlgaa
/- A region that draws its order, walked step by step: readers, and at each fork all operations that may come up. Plain facts over any program. -/
namespace Go.Proofs.Ytdildmfjekdlgaa
open Go.RowKit Go
section
variable {P : Program} {md : Region.Mode} {F : World → World → Prop}
theorem wpOp_of {l : List Oper} {Q : Exit → Act → World → Prop} {N R : Act → World → Prop} {e : Nat} (h3 : e < l.length) {a : Act} {w : World} (hK : ∀ a'' w', (F w w' ∧ N a'' w') → R a'' w')
    (ha : wpList P l.toArray (pieceEnd fun a'' w' => F w w' ∧ N a'' w') [pick l e] a w) : wpOp P l.toArray (NoPanic Q) e R a w := by
  unfold wpOp
  simp only [pick_at h3]
  unfold wpList at ha
  split at ha
  · rename_i hw
    rw [if_pos hw]
    rcases ha with ha | ⟨_, ⟨_, _, hx⟩⟩
    · refine .inl (wp_post (Q := pieceEnd _) (fun _ _ _ h => h.elim) (fun ⟨_, _, h⟩ => h.elim) (Oper.wp_mono (fun a'' w' h => hK a'' w' h) ha))
    · exact hx.elim
  · rename_i hw
    rw [if_neg hw]
    exact hK _ _ ha
/-- Readers come up and are taken. -/
theorem flow_reads {l : List Oper} {Q : Exit → Act → World → Prop} (hr : ∀ w, F w w) (hs : Region.noSelect l.toArray = true) {fuel : Nat} (is : List Nat) {listed : Array Bool} {a : Act} {w : World} (hB : readsB md l is listed = true)
    (h : wpQuiet P l.toArray (Futs F w) (fun a' => wpAnyH P md l.toArray (NoPanic Q) (Futs F w) fuel (setAll is listed) a' w) (is.map (pick l)) a) :
    wpAnyH P md l.toArray (NoPanic Q) (Futs F w) (is.length + fuel) listed a w :=
  wpAnyH_reads hs (Futs.of (hr w)) is listed a hB h (fun _ h => h)
/-- One operation, whichever comes up. -/
theorem flow_step {l : List Oper} {Q : Exit → Act → World → Prop} (ht : ∀ a b c, F a b → F b c → F a c) (hr : ∀ w, F w w) {fuel : Nat} (es : List Nat) {listed : Array Bool} {a : Act} {w : World} (h2 : (Region.ready md l.toArray listed == es) = true) (h0 : es ≠ []) (h3 : es.all (fun e => decide (e < l.length)) = true)
    (h : ∀ e ∈ es, wpList P l.toArray (pieceEnd fun a'' w' => F w w' ∧ wpAnyH P md l.toArray (NoPanic Q) (Futs F w') fuel (listed.setIfInBounds e true) a'' w') [pick l e] a w) :
    wpAnyH P md l.toArray (NoPanic Q) (Futs F w) (fuel + 1) listed a w := by
  have h2' : Region.ready md l.toArray listed = es := by simpa using h2
  refine wpAnyH_all h2' h0 (fun i hi => ?_)
  have hi3 : i < l.length := by simpa using List.all_eq_true.1 h3 i hi
  exact wpOp_of (F := F) hi3 (fun a'' w' ⟨hF, hg⟩ => ⟨Futs.of hF, wpAnyH_mono (fun x hx => Futs.of (ht _ _ _ hF (hx.to hr))) _ _ _ _ hg⟩) (h i hi)
theorem flow_one {l : List Oper} {Q : Exit → Act → World → Prop} (ht : ∀ a b c, F a b → F b c → F a c) (hr : ∀ w, F w w) {fuel : Nat} (e : Nat) {listed : Array Bool} {a : Act} {w : World} (h2 : (Region.ready md l.toArray listed == [e]) = true) (h3 : e < l.length)
    (h : wpList P l.toArray (pieceEnd fun a'' w' => F w w' ∧ wpAnyH P md l.toArray (NoPanic Q) (Futs F w') fuel (listed.setIfInBounds e true) a'' w') [pick l e] a w) :
    wpAnyH P md l.toArray (NoPanic Q) (Futs F w) (fuel + 1) listed a w :=
  flow_step ht hr [e] h2 (by simp) (by simpa using h3) (fun i hi => by
    have : i = e := by simpa using hi
    rw [this]; exact h)
theorem flow_two {l : List Oper} {Q : Exit → Act → World → Prop} (ht : ∀ a b c, F a b → F b c → F a c) (hr : ∀ w, F w w) {fuel : Nat} (e1 e2 : Nat) {listed : Array Bool} {a : Act} {w : World} (h2 : (Region.ready md l.toArray listed == [e1, e2]) = true) (h3 : e1 < l.length) (h4 : e2 < l.length)
    (h : wpList P l.toArray (pieceEnd fun a'' w' => F w w' ∧ wpAnyH P md l.toArray (NoPanic Q) (Futs F w') fuel (listed.setIfInBounds e1 true) a'' w') [pick l e1] a w)
    (h' : wpList P l.toArray (pieceEnd fun a'' w' => F w w' ∧ wpAnyH P md l.toArray (NoPanic Q) (Futs F w') fuel (listed.setIfInBounds e2 true) a'' w') [pick l e2] a w) :
    wpAnyH P md l.toArray (NoPanic Q) (Futs F w) (fuel + 1) listed a w :=
  flow_step ht hr [e1, e2] h2 (by simp) (by simp [h3, h4]) (fun i hi => by
    have : i = e1 ∨ i = e2 := by simpa using hi
    rcases this with rfl | rfl
    · exact h
    · exact h')
theorem flow_done {l : List Oper} {Q : Exit → Act → World → Prop} {listed : Array Bool} {a : Act} {w : World} (h2 : (Region.ready md l.toArray listed).isEmpty = true) (h : Q .normal a w) :
    wpAnyH P md l.toArray (NoPanic Q) (Futs F w) 0 listed a w := ⟨by simpa using h2, h⟩
theorem wp_region_flow {l : List Oper} {id : Nat} {Q : Exit → Act → World → Prop} {a : Act} {w : World} (hm : P.follows .mixedOrders = true) (F : World → World → Prop)
    (h : wpAnyH P .any l.toArray (NoPanic Q) (Futs F w.drew) l.length (Array.replicate l.length false) a w.drew) : (Code.region id l.toArray true).wp P Q a w := by
  refine wp_region_noPanic (wp_region_held hm (S := Futs F w.drew) ?_)
  rw [List.size_toArray]
  exact h
end
end Go.Proofs.Ytdildmfjekdlgaa
/- An array of slices of strings that a call fills, slot by slot. -/
namespace Go.Proofs.Ytdildmfjekdlgaa
open Go.RowKit
end Go.Proofs.Ytdildmfjekdlgaa
/- slices.Sort of at most one string. -/
namespace Go.Proofs.Ytdildmfjekdlgaa
open Go.RowKit
end Go.Proofs.Ytdildmfjekdlgaa
/- slices.Sort of two strings. -/
namespace Go.Proofs.Ytdildmfjekdlgaa
open Go.RowKit
end Go.Proofs.Ytdildmfjekdlgaa
/- Reading an array's slot. -/
namespace Go.Proofs.Ytdildmfjekdlgaa
open Go.RowKit
end Go.Proofs.Ytdildmfjekdlgaa
/- The walk of chain.known's byNumber. -/
namespace Go.Proofs.Ytdildmfjekdlgaa
open Go.RowKit
/-- The digests with number n of those that have come, in the order in which they came. -/
def came (l : List Stm) (seen : Array Nat) (n : Nat) : List ByteArray := (seen.toList.filter fun j => decide ((l.getD j noStm).number = n)).map fun j => (l.getD j noStm).dig
/-- Two strings stand in their order. -/
def Srt (l : List ByteArray) : Prop := ∀ x y, l = [x, y] → Op.bytesLess x.toList y.toList = true ∨ Op.bytesLess y.toList x.toList = false
/-- The same strings, in order. -/
def Prm (a b : List ByteArray) : Prop := a.Perm b ∧ Srt a
theorem Prm.trans {a b c : List ByteArray} (h : Prm a b) (k : b.Perm c) : Prm a c := ⟨h.1.trans k, h.2⟩
theorem Prm.short {a : List ByteArray} (h : a.length ≤ 1) : Prm a a := ⟨List.Perm.refl _, fun x y e => by rw [e] at h; simp at h⟩
end Go.Proofs.Ytdildmfjekdlgaa
/- The walk of chain's continues. -/
namespace Go.Proofs.Ytdildmfjekdlgaa
open Go.RowKit
/-- A row of statements goes on with o. -/
def contB (l : List Stm) (o : Stm) : Bool := if l.length = 0 then true else decide ((l.getD (l.length - 1) noStm).kind ≠ 3) && (behindB (l.getD (l.length - 1) noStm) o && (o.prev.toList == (l.getD (l.length - 1) noStm).dig.toList))
end Go.Proofs.Ytdildmfjekdlgaa
/- The walk of chain.find, over statements that all count. -/
namespace Go.Proofs.Ytdildmfjekdlgaa
open Go.RowKit
end Go.Proofs.Ytdildmfjekdlgaa
/- The walk of chain.Counted. -/
namespace Go.Proofs.Ytdildmfjekdlgaa
open Go.RowKit
def withNum (l : List Stm) (i : Nat) : List Stm := l.filter fun s => decide (s.number = (i : Int))
/-- The statement with number i goes on with the row. -/
def contNow (l row : List Stm) (i : Nat) : Bool := decide ((withNum l i).length = 1) && contB row ((withNum l i).headD noStm)
def countL (l : List Stm) : Nat → List Stm → Nat → List Stm
  | 0, row, _ => row
  | k + 1, row, i => if contNow l row i then countL l k (row ++ [(withNum l i).headD noStm]) (i + 1) else row
theorem countL_go (l row : List Stm) (j : Nat) (hj : j < 200) (h : contNow l row j = true) : countL l (200 - j) row j = countL l (200 - (j + 1)) (row ++ [(withNum l j).headD noStm]) (j + 1) := by
  rw [show 200 - j = (200 - (j + 1)) + 1 by omega, countL, if_pos h]
theorem countL_stop (l row : List Stm) (j : Nat) (hj : j < 200) (h : contNow l row j = false) : countL l (200 - j) row j = row := by
  rw [show 200 - j = (200 - (j + 1)) + 1 by omega, countL, if_neg (by rw [h]; decide)]
theorem own_lt {w : World} {B : Nat} {e : TypeId} {sz : Nat} {v : Value} {n : Nat} {xs : List Value} (h : w.ownsRow B e sz v n xs) : ∀ k, v.ownBlock = some k → k < w.heap.size := by
  intro k hk
  rcases h.2 with ⟨hn, _⟩ | ⟨a, cap, cur, rfl, ha, hgg, rest⟩
  · subst hn; cases hk
  · injection hk with hk
    subst hk
    exact (Array.getElem?_eq_some_iff.1 hgg).1
end Go.Proofs.Ytdildmfjekdlgaa
/- The walk of chain.Fork where there is a fork. -/
namespace Go.Proofs.Ytdildmfjekdlgaa
open Go.RowKit
theorem But.of_row (D : Nat) (w : World) (cs : Array Value) : But D w (w.setRow D cs) := ⟨rfl, rfl, rfl, (below_setRow (Below.refl D w) (Nat.le_refl _) cs).size, fun _ _ hne => setRow_other _ _ _ _ hne⟩
end Go.Proofs.Ytdildmfjekdlgaa
/- Statements in blocks of their own: stored and loaded whole. -/
namespace Go.Proofs.Ytdildmfjekdlgaa
open Go.RowKit
theorem modify_last {α : Type} (l : Array α) (o : α) (f : α → α) : (l.push o).modify l.size f = l.push (f o) := by
  apply Array.ext
  · simp
  · intro i h1 h2
    rw [Array.getElem_modify]
    by_cases h : l.size = i
    · subst h; simp
    · rw [if_neg h, Array.getElem_push_lt (by simp at h2; omega), Array.getElem_push_lt (by simp at h2; omega)]
theorem setRow_alloc (w : World) (old cells : Array Value) (t : TypeId) : (w.alloc (.cells old t)).setRow w.heap.size cells = w.alloc (.cells cells t) := by
  unfold World.setRow World.alloc
  rw [modify_last]
theorem wpList_store_new {P : Program} {ops : Array Oper} {rest : List Oper} {o : Oper} {a : Act} {w : World} {Q : Exit → Act → World → Prop} (hgd : o.guard = none) (ty : TypeId) (x y : Operand) (ho : o.op = .store ty x y)
    (t : TypeId) (old cells : Array Value) (hx : a.eval x = .pointer (some ⟨w.heap.size, 0, none⟩)) (hy : a.eval y = .agg cells) (hi : (P.info? ty).map (·.size) = some cells.size)
    (hold : old.size = cells.size) (h1 : cells.all (·.oneCell') = true) (h : wpList P ops Q rest (a.put o.dst undef) (w.alloc (.cells cells t))) : wpList P ops Q (o :: rest) a (w.alloc (.cells old t)) := by
  refine wpList_store_row hgd ty x y ho w.heap.size cells hx hy t old (heap_alloc_new _ _) hi hold h1 ?_
  rw [setRow_alloc]
  exact h
end Go.Proofs.Ytdildmfjekdlgaa
/- The walks of store's pick (by an author), Of, row, Height. -/
namespace Go.Proofs.Ytdildmfjekdlgaa
open Go.RowKit
end Go.Proofs.Ytdildmfjekdlgaa
/- The walks of the comparisons of lists. -/
namespace Go.Proofs.Ytdildmfjekdlgaa
open Go.RowKit
def sameIB (l m : List Int) : Bool := decide (l.length = m.length) && (List.range l.length).all fun i => l.getD i 0 == m.getD i 0
def pinEq (p q : PinD) : Bool := decide (p.author = q.author) && decide (p.height = q.height) && decide (p.digest = q.digest)
def samePB (l m : List PinD) : Bool := decide (l.length = m.length) && (List.range l.length).all fun i => pinEq (l.getD i noPin) (m.getD i noPin)
theorem sameIB_self (l : List Int) : sameIB l l = true := by simp [sameIB]
theorem samePB_self (l : List PinD) : samePB l l = true := by simp [samePB, pinEq]
theorem IRow.cell' {w : World} {A : Option Addr} {n c : Nat} {l : List Int} (h : IRow w A n c l) (k : Nat) (hk : k < n) : ∃ b off, A = some ⟨b, off, none⟩ ∧ w.cell? ⟨b, off + k, none⟩ = some (.int .i64 (l.getD k 0)) := by
  obtain ⟨b, off, hA, hc⟩ := Row.form h (by omega)
  have hl := h.len
  have := hc k (by omega)
  rw [intsV_get _ _ (by omega)] at this
  exact ⟨b, off, hA, this⟩
set_option maxHeartbeats 1000000 in
theorem sameInts_any (A : Option Addr) (n c : Nat) (l : List Int) (B : Option Addr) (m k : Nat) (l2 : List Int) (w : World) (h1 : IRow w A n c l) (h2 : IRow w B m k l2) (hn : n ≤ 1000000) :
    Calls Try.prog 27 #[.slice A n c, .slice B m k] w (SaysL (.bool (sameIB l l2)) w) := by
  have H1 := Lib.hid h1; have H2 := Lib.hid h2
  have HS : Hid (sameIB l l2 = (decide (n = m) && (List.range n).all fun i => l.getD i 0 == l2.getD i 0)) := by unfold Hid sameIB; rw [h1.len, h2.len]
  clear h1 h2
  generalize sameIB l l2 = R at HS ⊢
  go_enter Try.func27, Try.ntmps27
  by_cases hm : n = m
  · subst hm
    have HS2 : Hid (R = (List.range n).all fun i => l.getD i 0 == l2.getD i 0) := by unfold Hid; rw [HS.out]; simp
    clear HS
    go_wp2_with fail
    go_loopw [5] (fun i wr => ∃ j : Nat, j ≤ n ∧ i = .int .i64 j ∧ Hid (((List.range j).all fun i => l.getD i 0 == l2.getD i 0) = true ∧ Below w.heap.size w wr)) (fun i _ => n - (intOf i).toNat)
    case atStart => exact ⟨0, Nat.zero_le _, rfl, Lib.hid ⟨rfl, Below.refl _ _⟩⟩
    case round =>
      obtain ⟨j, hj, rfl, HQ⟩ := hrel
      by_cases hlt : j < n
      · obtain ⟨b1, o1, hA, hc1⟩ := (H1.out.later HQ.out.2).cell' j hlt
        obtain ⟨b2, o2, hB, hc2⟩ := (H2.out.later HQ.out.2).cell' j hlt
        subst hA; subst hB
        have NO : Hid ((l.getD j 0 == l2.getD j 0) = false → R = false) := Lib.hid fun h => by rw [HS2.out]; exact all_no hlt h
        have YES : Hid ((l.getD j 0 == l2.getD j 0) = true → ((List.range (j + 1)).all fun i => l.getD i 0 == l2.getD i 0) = true) := Lib.hid fun h => all_more HQ.out.1 h
        generalize l.getD j 0 = x at hc1 NO YES
        generalize l2.getD j 0 = y at hc2 NO YES
        have HB := Lib.hid HQ.out.2; clear HQ
        cases g : (x == y)
        · have g2 : (x != y) = true := by simp only [bne, g]; rfl
          have HR := Lib.hid (NO.out g)
          go_wp2_with fail
          go_quiet (fail)
          go_wp2
          go_ret
          exact ⟨by rw [HR.out]; rfl, below_nq HB.out _⟩
        · have g2 : (x != y) = false := by simp only [bne, g]; rfl
          have HY := Lib.hid (YES.out g)
          go_wp2_with fail
          go_quiet (fail)
          go_wp2
          exact ⟨⟨j + 1, hlt, by go_num, Lib.hid ⟨HY.out, below_nq HB.out _⟩⟩, by simp [intOf]; omega⟩
      · have HE : Hid (j = n) := by unfold Hid; omega
        go_wp2
        go_ret
        exact ⟨by rw [HS2.out, ← HE.out, HQ.out.1]; rfl, HQ.out.2⟩
  · have HV : Hid (R = false) := by unfold Hid; rw [HS.out]; simp [hm]
    have g : ((n : Int) != m) = true := by simp; omega
    go_wp2
    go_ret
    exact ⟨by rw [HV.out]; rfl, Below.refl _ _⟩
end Go.Proofs.Ytdildmfjekdlgaa
/- The walks of Same, of the program and of the reference. -/
namespace Go.Proofs.Ytdildmfjekdlgaa
open Go.RowKit
def sameS (s t : Stm) : Bool :=
  (s.author == t.author) && (s.number == t.number) && (s.prev.toList == t.prev.toList) && (s.time == t.time) && (s.kind == t.kind) && (s.a == t.a) && (s.b == t.b) && (s.c == t.c) && sameIB s.list t.list && samePB s.pins t.pins && (s.body.toList == t.body.toList) && (decide (s.key = t.key) && decide (s.dig = t.dig))
theorem sameS_self (s : Stm) : sameS s s = true := by simp [sameS, sameIB_self, samePB_self]
end Go.Proofs.Ytdildmfjekdlgaa
/- The walk of slices.EqualFunc for two slices of the same statements. -/
namespace Go.Proofs.Ytdildmfjekdlgaa
open Go.RowKit
end Go.Proofs.Ytdildmfjekdlgaa
/- The walk of chain.Next. -/
namespace Go.Proofs.Ytdildmfjekdlgaa
open Go.RowKit
end Go.Proofs.Ytdildmfjekdlgaa
/- The digest over plain natural numbers, which the kernel reckons fast, and that it is the digest. No program. -/
namespace Go.Proofs.Ytdildmfjekdlgaa
namespace F
/-- The number is worked out before it is handed on. -/
def force {α : Type} (n : Nat) (f : Nat → α) : α := match n with
  | 0 => f 0
  | k + 1 => f (k + 1)
def rot (x n m : Nat) : Nat := Nat.lor (Nat.mod (Nat.mul x m) 4294967296) (Nat.mod (Nat.div x n) 4294967296)
def s0 (x : Nat) : Nat := Nat.xor (Nat.xor (rot x 128 33554432) (rot x 262144 16384)) (Nat.mod (Nat.div x 8) 4294967296)
def s1 (x : Nat) : Nat := Nat.xor (Nat.xor (rot x 131072 32768) (rot x 524288 8192)) (Nat.mod (Nat.div x 1024) 4294967296)
def b0 (x : Nat) : Nat := Nat.xor (Nat.xor (rot x 4 1073741824) (rot x 8192 524288)) (rot x 4194304 1024)
def b1 (x : Nat) : Nat := Nat.xor (Nat.xor (rot x 64 67108864) (rot x 2048 2097152)) (rot x 33554432 128)
def ch (e f g : Nat) : Nat := Nat.xor (Nat.land e f) (Nat.land (Nat.sub 4294967295 e) g)
def maj (a b c : Nat) : Nat := Nat.xor (Nat.xor (Nat.land a b) (Nat.land a c)) (Nat.land b c)
def add (a b : Nat) : Nat := Nat.mod (Nat.add a b) 4294967296
structure S where
  a : Nat
  b : Nat
  c : Nat
  d : Nat
  e : Nat
  f : Nat
  g : Nat
  h : Nat
def go : List Nat → List Nat → S → S
  | [], _, s => s
  | k :: ks, w0 :: w1 :: w2 :: w3 :: w4 :: w5 :: w6 :: w7 :: w8 :: w9 :: w10 :: w11 :: w12 :: w13 :: w14 :: w15 :: _, s =>
    force (add (add (add (add s.h (b1 s.e)) (ch s.e s.f s.g)) k) w0) fun t =>
    force (add (add t (b0 s.a)) (maj s.a s.b s.c)) fun a =>
    force (add s.d t) fun e =>
    force (add (add (add w0 (s0 w1)) w9) (s1 w14)) fun w16 =>
    go ks [w1, w2, w3, w4, w5, w6, w7, w8, w9, w10, w11, w12, w13, w14, w15, w16] ⟨a, s.a, s.b, s.c, e, s.e, s.f, s.g⟩
  | _ :: _, _, s => s
def sum (s t : S) : S := ⟨add s.a t.a, add s.b t.b, add s.c t.c, add s.d t.d, add s.e t.e, add s.f t.f, add s.g t.g, add s.h t.h⟩
def KN : List Nat := Sha.K.map UInt32.toNat
/-- A block mixed in, over plain numbers. -/
def mix (ws : List Nat) (s : S) : S := sum s (go KN ws s)
def word4 (a b c d : Nat) : Nat := Nat.lor (Nat.lor (Nat.lor (Nat.mod (Nat.mul a 16777216) 4294967296) (Nat.mod (Nat.mul b 65536) 4294967296)) (Nat.mod (Nat.mul c 256) 4294967296)) d
def words : Nat → List Nat → List Nat
  | 0, _ => []
  | k + 1, a :: b :: c :: d :: l => force (word4 a b c d) fun x => x :: words k l
  | _ + 1, _ => []
theorem four (l : List UInt8) (h : 4 ≤ l.length) : ∃ a b c d m, l = a :: b :: c :: d :: m := by
  cases l with
  | nil => simp only [List.length_nil] at h; omega
  | cons a l =>
    cases l with
    | nil => simp only [List.length_cons, List.length_nil] at h; omega
    | cons b l =>
      cases l with
      | nil => simp only [List.length_cons, List.length_nil] at h; omega
      | cons c l =>
        cases l with
        | nil => simp only [List.length_cons, List.length_nil] at h; omega
        | cons d m => exact ⟨a, b, c, d, m, rfl⟩
/-- A state whose numbers are worked out before it is handed on. -/
def forceS {α : Type} (s : S) (f : S → α) : α :=
  force s.a fun a => force s.b fun b => force s.c fun c => force s.d fun d => force s.e fun e => force s.f fun x => force s.g fun g => force s.h fun h => f ⟨a, b, c, d, e, x, g, h⟩
def eat : Nat → List Nat → S → S
  | 0, _, s => s
  | q + 1, l, s => forceS (mix (words 16 l) s) fun s => eat q (l.drop 64) s
def iv : S := ⟨1779033703, 3144134277, 1013904242, 2773480762, 1359893119, 2600822924, 528734635, 1541459225⟩
/-- The bytes of a state. -/
def bytes4 (x : Nat) : List Nat := [Nat.mod (Nat.div x 16777216) 256, Nat.mod (Nat.div x 65536) 256, Nat.mod (Nat.div x 256) 256, Nat.mod x 256]
def text (s : S) : List Nat := bytes4 s.a ++ bytes4 s.b ++ bytes4 s.c ++ bytes4 s.d ++ bytes4 s.e ++ bytes4 s.f ++ bytes4 s.g ++ bytes4 s.h
end F
end Go.Proofs.Ytdildmfjekdlgaa
/- The digests of bare statements over plain numbers. No program. -/
namespace Go.Proofs.Ytdildmfjekdlgaa
namespace F
/-- A statement that says next to nothing. -/
def bare (author number : Nat) (prev : ByteArray) (time kind a : Nat) : Stm := ⟨author, number, prev, time, kind, a, 0, 0, [], [], ⟨#[]⟩, 0, ⟨#[]⟩⟩
end F
end Go.Proofs.Ytdildmfjekdlgaa
/- Rows of bare statements: what counts of them. No program. -/
namespace Go.Proofs.Ytdildmfjekdlgaa
/-- A statement that may stand in a row: whatever a row asks of each of its statements. -/
structure Fit (au : Int) (x : Stm) : Prop where
  author : x.author = au
  check : checkV x = 0
  sealed : sealedB x = true
  bare : x.list = [] ∧ x.pins = [] ∧ Small x ∧ 0 ≤ x.number ∧ x.number < 200
theorem Good.nil (au : Int) : Good au [] := ⟨fun _ h => by simp at h, fun _ h => by simp at h, fun _ h => by simp at h, fun _ h => by simp at h, by simp⟩
theorem Good.snoc {au : Int} {l : List Stm} {x : Stm} (h : Good au l) (hx : Fit au x) (hd : ∀ y ∈ l, y.dig ≠ x.dig) : Good au (l ++ [x]) := by
  have k : ∀ {P : Stm → Prop}, (∀ s ∈ l, P s) → P x → ∀ s ∈ l ++ [x], P s := fun h1 h2 s hs => by
    rcases List.mem_append.1 hs with h | h
    · exact h1 s h
    · rw [List.mem_singleton.1 h]; exact h2
  refine ⟨k h.author hx.author, k h.check hx.check, k h.sealed hx.sealed, k h.bare hx.bare, ?_⟩
  rw [List.map_append, List.nodup_append]
  refine ⟨h.nodup, by simp, fun a ha b hb => ?_⟩
  obtain ⟨y, hy, rfl⟩ := List.mem_map.1 ha
  rw [show b = x.dig by simpa using hb]
  exact hd y hy
/-- What counts, where a row's statements are the only ones with their numbers, and each one goes on. -/
theorem countL_walk (L row : List Stm) (hrow : ∀ i (h : i < row.length), withNum L i = [row[i]] ∧ contB (row.take i) row[i] = true) (hm : row.length < 200) (hstop : contNow L row row.length = false) : countL L 200 [] 0 = row := by
  have key : ∀ j, j ≤ row.length → countL L 200 [] 0 = countL L (200 - j) (row.take j) j := by
    intro j
    induction j with
    | zero => intro _; rfl
    | succ j ih =>
      intro hj
      obtain ⟨h1, h2⟩ := hrow j (by omega)
      rw [ih (by omega), countL_go L (row.take j) j (by omega) (by unfold contNow; rw [h1]; simpa using h2), h1]
      congr 1
      rw [List.take_add_one, List.getElem?_eq_getElem (by omega)]
      rfl
  rw [key row.length (Nat.le_refl _), List.take_of_length_le (Nat.le_refl _)]
  exact countL_stop L row row.length hm hstop
/-- A row that counts wholly. -/
structure Whole' (au : Int) (l : List Stm) : Prop where
  good : Good au l
  num : ∀ i (h : i < l.length), (l[i]).number = (i : Int)
  cont : ∀ i (h : i < l.length), contB (l.take i) l[i] = true
theorem Whole'.nil (au : Int) : Whole' au [] := ⟨Good.nil au, fun _ h => absurd h (by simp), fun _ h => absurd h (by simp)⟩
theorem withNum_snoc (l : List Stm) (x : Stm) (i : Nat) : withNum (l ++ [x]) i = withNum l i ++ if x.number = (i : Int) then [x] else [] := by
  unfold withNum
  rw [List.filter_append]
  by_cases h : x.number = (i : Int)
  · rw [if_pos h]; simp [h]
  · rw [if_neg h]; simp [h]
theorem withNum_of : ∀ (n : Nat) (l : List Stm), l.length = n → (∀ i (h : i < l.length), (l[i]).number = (i : Int)) → ∀ i, withNum l i = if h : i < l.length then [l[i]] else [] := by
  intro n
  induction n with
  | zero =>
    intro l hl _ i
    have : l = [] := List.eq_nil_of_length_eq_zero hl
    subst this
    rfl
  | succ n ih =>
    intro l hl hn i
    obtain ⟨m, x, rfl⟩ : ∃ m x, l = m ++ [x] := ⟨l.dropLast, l.getLast (by intro h; rw [h] at hl; simp at hl), (List.dropLast_concat_getLast _).symm⟩
    have hm : m.length = n := by simpa using hl
    have h1 := ih m hm (fun j hj => by have h := hn j (by simp; omega); rwa [List.getElem_append_left hj] at h) i
    have h2 : x.number = (n : Int) := by have h := hn n (by simp; omega); rwa [List.getElem_append_right (by omega), List.getElem_singleton] at h
    rw [withNum_snoc, h1, h2]
    by_cases hi : i < m.length
    · rw [dif_pos hi, dif_pos (by simp; omega), if_neg (by omega), List.append_nil, List.getElem_append_left hi]
    · rw [dif_neg hi, List.nil_append]
      by_cases hin : n = i
      · subst hin
        rw [if_pos rfl, dif_pos (by simp; omega), List.getElem_append_right (by omega), List.getElem_singleton]
      · rw [if_neg (by omega), dif_neg (by simp; omega)]
theorem Whole'.at {au : Int} {l : List Stm} (h : Whole' au l) (i : Nat) : withNum l i = if h : i < l.length then [l[i]] else [] := withNum_of _ l rfl h.num i
theorem Whole'.snoc {au : Int} {l : List Stm} {x : Stm} (h : Whole' au l) (hx : Fit au x) (hd : ∀ y ∈ l, y.dig ≠ x.dig) (hn : x.number = (l.length : Int)) (hc : contB l x = true) : Whole' au (l ++ [x]) := by
  refine ⟨h.good.snoc hx hd, fun i hi => ?_, fun i hi => ?_⟩
  · by_cases hil : i < l.length
    · rw [List.getElem_append_left hil]; exact h.num i hil
    · rw [List.getElem_append_right (by omega), List.getElem_singleton, hn]
      have : i = l.length := by simp at hi; omega
      rw [this]
  · by_cases hil : i < l.length
    · rw [List.getElem_append_left hil, List.take_append_of_le_length (by omega)]; exact h.cont i hil
    · have e : i = l.length := by simp at hi; omega
      subst e
      rw [List.getElem_append_right (Nat.le_refl _), List.getElem_singleton, List.take_append_of_le_length (Nat.le_refl _), List.take_of_length_le (Nat.le_refl _)]
      exact hc
theorem Whole'.count {au : Int} {l : List Stm} (h : Whole' au l) (hm : l.length < 200) : countL l 200 [] 0 = l :=
  countL_walk l l (fun i hi => ⟨by rw [h.at i, dif_pos hi], h.cont i hi⟩) hm (by unfold contNow; rw [h.at l.length, dif_neg (Nat.lt_irrefl _)]; rfl)
theorem Whole'.two {au : Int} {l : List Stm} (h : Whole' au l) (n : Nat) : (l.filter fun s => decide (s.number = (n : Int))).length ≤ 2 := by
  have e := h.at n
  unfold withNum at e
  rw [e]
  by_cases hn : n < l.length
  · rw [dif_pos hn]; simp
  · rw [dif_neg hn]; simp
end Go.Proofs.Ytdildmfjekdlgaa
/- The walk of chain.Fork without a fork; and over two statements. -/
namespace Go.Proofs.Ytdildmfjekdlgaa
open Go.RowKit
end Go.Proofs.Ytdildmfjekdlgaa
/- The walk of statement.Encode. -/
namespace Go.Proofs.Ytdildmfjekdlgaa
open Go.RowKit
end Go.Proofs.Ytdildmfjekdlgaa
/- Two statements as evidence: plain facts. -/
namespace Go.Proofs.Ytdildmfjekdlgaa
open Go.RowKit
/-- Two statements as a value. -/
def forkV (s : Stm) (A : Option Addr) (n c : Nat) (B : Option Addr) (m k : Nat) (t : Stm) (A2 : Option Addr) (n2 c2 : Nat) (B2 : Option Addr) (m2 k2 : Nat) : Value := .agg #[.int .i64 s.author, .int .i64 s.number, .string s.prev, .int .i64 s.time, .int .i64 s.kind, .int .i64 s.a, .int .i64 s.b, .int .i64 s.c, .slice A n c, .slice B m k, .string s.body, .int .i64 s.key, .string s.dig, .int .i64 t.author, .int .i64 t.number, .string t.prev, .int .i64 t.time, .int .i64 t.kind, .int .i64 t.a, .int .i64 t.b, .int .i64 t.c, .slice A2 n2 c2, .slice B2 m2 k2, .string t.body, .int .i64 t.key, .string t.dig]
end Go.Proofs.Ytdildmfjekdlgaa
/- Two statements in one block, loaded whole or by halves. -/
namespace Go.Proofs.Ytdildmfjekdlgaa
open Go.RowKit
/-- A block is loaded whole, by an operation that is guarded. -/
theorem wpList_load_rowG {P : Program} {ops : Array Oper} {rest : List Oper} {o : Oper} {a : Act} {w : World} {Q : Exit → Act → World → Prop} (hw : Region.wanted o (yielded ops a.tmps) = true) (ty : TypeId) (x : Operand) (ho : o.op = .load ty x)
    (g : Nat) (hx : a.eval x = .pointer (some ⟨g, 0, none⟩)) (t : TypeId) (cs : Array Value) (fr : Nat × Nat) (d : TypeDesc) (hg : w.heap[g]? = some (.cells cs t fr))
    (hu : P.underlying ty = some d) (hd : (match d with | .struct _ | .array _ _ => true | _ => false) = true) (hi : (P.info? ty).map (·.size) = some cs.size)
    (h : wpList P ops Q rest (a.put o.dst (.agg cs)) w) : wpList P ops Q (o :: rest) a w :=
  wpList_want hw fun _ hK => wp_load_row ty x ho g hx t cs fr d hg hu hd hi (hK _ _ h)
end Go.Proofs.Ytdildmfjekdlgaa
/- The walk of fork.of. -/
namespace Go.Proofs.Ytdildmfjekdlgaa
open Go.RowKit
end Go.Proofs.Ytdildmfjekdlgaa
/- The digests of the sanity check's statements. -/
namespace Go.Proofs.Ytdildmfjekdlgaa
open Go.RowKit
namespace F
end F
end Go.Proofs.Ytdildmfjekdlgaa
/- The walk of fork.Find over two statements. -/
namespace Go.Proofs.Ytdildmfjekdlgaa
open Go.RowKit
end Go.Proofs.Ytdildmfjekdlgaa
/- The walks of fork.Guilty and fork.From over two statements. -/
namespace Go.Proofs.Ytdildmfjekdlgaa
open Go.RowKit
/-- Cells are loaded as one value, wherever they lie. -/
theorem run_loadVar_cells {P : Program} (w : World) (g off : Nat) (ty : TypeId) (part : Array Value) (d : TypeDesc)
    (hu : P.underlying ty = some d) (hd : (match d with | .struct _ | .array _ _ => true | _ => false) = true) (hi : (P.info? ty).map (·.size) = some part.size) (hp : ∀ j, j < part.size → w.cell? ⟨g, off + j, none⟩ = part[j]?) :
    (loadVar ty ⟨g, off, none⟩).run P w = .ok (.agg part) w := by
  have hl : (loadCells ⟨g, off, none⟩ part.toList.length).run P w = .ok part.toList.toArray w :=
    run_loadCells_list (P := P) w ⟨g, off, none⟩ part.toList (fun j v hv => by
      have hadd : (⟨g, off, none⟩ : Addr).add j = ⟨g, off + j, none⟩ := by unfold Addr.add; split <;> simp_all
      have hj : j < part.size := by
        rcases Nat.lt_or_ge j part.size with h | h
        · exact h
        · rw [List.getElem?_eq_none (by simpa using h)] at hv; cases hv
      rw [hadd, hp j hj]
      simpa using hv)
  cases hq : P.info? ty with
  | none => simp [hq] at hi
  | some i =>
    have hs : i.size = part.size := by simpa [hq] using hi
    have hagg : (isAgg ty).run P w = .ok true w := by
      unfold isAgg
      rw [Sem.run_bind, run_underlying hu w]
      cases d <;> simp_all
    simp only [Array.length_toList, Array.toArray_toList] at hl
    simp [loadVar, Sem.run_bind, hagg, sizeOf, typeInfo, hq, hs, hl]
theorem wpList_load_cells {P : Program} {ops : Array Oper} {rest : List Oper} {o : Oper} {a : Act} {w : World} {Q : Exit → Act → World → Prop} (hgd : o.guard = none) (ty : TypeId) (x : Operand) (ho : o.op = .load ty x)
    (g off : Nat) (hx : a.eval x = .pointer (some ⟨g, off, none⟩)) (part : Array Value) (d : TypeDesc)
    (hu : P.underlying ty = some d) (hd : (match d with | .struct _ | .array _ _ => true | _ => false) = true) (hi : (P.info? ty).map (·.size) = some part.size) (hp : ∀ j, j < part.size → w.cell? ⟨g, off + j, none⟩ = part[j]?)
    (h : wpList P ops Q rest (a.put o.dst (.agg part)) w) : wpList P ops Q (o :: rest) a w :=
  wpList_plain hgd fun K hK => by
    unfold Oper.wp execOp
    simp only [ho, hx, Instr.loadAt, Instr.sureAddr, Sem.run_bind, Sem.run_pure, Result.andThen_ok, run_loadVar_cells w g off ty part d hu hd hi hp]
    exact hK _ _ h
theorem wpList_load_cellsG {P : Program} {ops : Array Oper} {rest : List Oper} {o : Oper} {a : Act} {w : World} {Q : Exit → Act → World → Prop} (hw : Region.wanted o (yielded ops a.tmps) = true) (ty : TypeId) (x : Operand) (ho : o.op = .load ty x)
    (g off : Nat) (hx : a.eval x = .pointer (some ⟨g, off, none⟩)) (part : Array Value) (d : TypeDesc)
    (hu : P.underlying ty = some d) (hd : (match d with | .struct _ | .array _ _ => true | _ => false) = true) (hi : (P.info? ty).map (·.size) = some part.size) (hp : ∀ j, j < part.size → w.cell? ⟨g, off + j, none⟩ = part[j]?)
    (h : wpList P ops Q rest (a.put o.dst (.agg part)) w) : wpList P ops Q (o :: rest) a w :=
  wpList_want hw fun K hK => by
    unfold Oper.wp execOp
    simp only [ho, hx, Instr.loadAt, Instr.sureAddr, Sem.run_bind, Sem.run_pure, Result.andThen_ok, run_loadVar_cells w g off ty part d hu hd hi hp]
    exact hK _ _ h
end Go.Proofs.Ytdildmfjekdlgaa
