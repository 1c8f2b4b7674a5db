/- Memory that a call itself makes, byte by byte: plain facts over any program. -/
import Derived.Test.YtnjilfdmplbalaaGreatDoorSha
import Derived.WalkSpells
import Derived.WalkLawsBesides
import Derived.Laws.OwnMore
import Derived.Laws.AppendOwnNone
import Derived.OwnWalk
import Derived.Lib.SlBytesRow
import Derived.Laws.CopyRow
import Derived.Deep.AppendLies
namespace Go.Proofs.YtnjilfdmplbalaaGreatDoor
open Go.RowKit
/-- What the call itself has made of bytes: slice v holds the bytes l, in a block from B on. -/
def Owns (w : World) (B : Nat) (e : TypeId) (v : Value) (l : List UInt8) : Prop := w.ownsRow B e 1 v l.length (bytesV l)
theorem Owns.alloc {w : World} {B : Nat} {e : TypeId} {v : Value} {l : List UInt8} (h : Owns w B e v l) (o : Obj) : Owns (w.alloc o) B e v l := World.ownsRow.alloc h o
theorem Owns.below {w w' : World} {B B' : Nat} {e : TypeId} {v : Value} {l : List UInt8} (h : Owns w B e v l) (hb : Below B' w w') (hv : ∀ k, v.ownBlock = some k → k < B') : Owns w' B e v l := by
  refine ⟨h.1, ?_⟩
  rcases h.2 with hn | ⟨g, cap, cur, rfl, hg, hgg, rest⟩
  · exact .inl hn
  · exact .inr ⟨g, cap, cur, rfl, hg, (hb.block g (hv g rfl)).trans hgg, rest⟩
/-- The cells of a slice of bytes that the call itself has made. -/
theorem Owns.form {w : World} {B : Nat} {e : TypeId} {v : Value} {l : List UInt8} (h : Owns w B e v l) (hn : 0 < l.length) :
    ∃ g cap, v = .slice (some ⟨g, 0, none⟩) l.length cap ∧ B ≤ g ∧ g < w.heap.size ∧ l.length ≤ cap ∧ cap ≤ maxLen ∧ ∀ i, i < l.length → w.cell? ⟨g, i, none⟩ = some (bv (l.getD i 0)) := by
  rcases h.2 with ⟨_, h0⟩ | ⟨g, cap, cur, rfl, hg, hgg, h1, h2, _⟩
  · omega
  · refine ⟨g, cap, rfl, hg, (Array.getElem?_eq_some_iff.1 hgg).1, h1, h2, fun i hi => ?_⟩
    have := World.ownsRow.cellAt (size := 1) h i (by omega)
    rw [this, bytesV_get _ _ hi]
section
variable {P : Program} {ops : Array Oper} {rest : List Oper} {o : Oper} {a : Act} {Q : Exit → Act → World → Prop}
/-- append of cells that a new block holds, onto a slice of the call's own. -/
theorem wpList_push (wr : World) (hgd : o.guard = none) (s x : Operand) (t e : TypeId) (ho : o.op = .call { callee := .builtin .append, args := #[s, x], argTypes := #[t, t] })
    (B : Nat) (ht : P.underlying t = some (.slice e)) (hi : (P.info? e).map (fun i => (i.zero, i.size, i.bytes)) = some (some (.int .u8 0), 1, 1))
    (v : Value) (l : List UInt8) (hown : Owns wr B e v l) (hs : a.eval s = v) (m : Nat) (us : List UInt8) (hm : us.length = m) (cs : Array Value) (hcs : cs = (bytesV us).toArray)
    (hx : a.eval x = .slice (some ⟨wr.heap.size, 0, none⟩) m m) (hsz : l.length + m ≤ 1000000000) (hB : B ≤ wr.heap.size)
    (h : ∀ v' w', Owns w' B e v' (l ++ us) → Below B wr w' → wpList P ops Q rest (a.put o.dst v') w') : wpList P ops Q (o :: rest) a (wr.alloc (.cells cs e)) := by
  obtain ⟨i0, hi0, hz0, hz1, hz2⟩ := info_parts hi
  subst hcs
  refine wpList_append_own _ hgd s x t ho B e i0 (.int .u8 0) 1 1 ht hi0 hz0 hz1 hz2 rfl (by decide) v l.length (bytesV l) hs (World.ownsRow.alloc hown _) ⟨wr.heap.size, 0, none⟩ m m (bytesV us) hx (by rw [bytesV_len, hm]; omega) ?_ (bytesV_one us) (by unfold maxLen; omega) (by omega) (by simp; omega) ?_
  · intro j u hu
    rw [show ((⟨wr.heap.size, 0, none⟩ : Addr).add j) = ⟨wr.heap.size, j, none⟩ from by rw [Addr.add_lit, Nat.zero_add], cell_of_row _ _ _ _ _ _ (heap_alloc_new _ _)]
    simpa using hu
  · intro v' w' h1 h2 _
    refine h v' w' ?_ ?_
    · unfold Owns; rw [bytesV_app, List.length_append, hm]; exact h1
    · refine ((Below.refl B wr).alloc hB _).grown h2 (by simp; omega) (fun k hk => ?_)
      exact (World.ownsRow.lt hown k hk).1
end
/-- A slice value that reads as the bytes us; nil and empty slices too. -/
structure SliceAt (w : World) (A : Option Addr) (n c : Nat) (us : List UInt8) : Prop where
  len : us.length = n
  cap : n ≤ c
  nil : A = none → n = 0 ∧ c = 0
  some_ : ∀ ad, A = some ad → 0 < n → ∃ b off, ad = ⟨b, off, none⟩ ∧ ∀ i, i < n → w.cell? ⟨b, off + i, none⟩ = some (bv (us.getD i 0))
theorem SliceAt.below {w w' : World} {A : Option Addr} {n c : Nat} {us : List UInt8} (h : SliceAt w A n c us) (hb : Below w.heap.size w w') : SliceAt w' A n c us := by
  refine ⟨h.len, h.cap, h.nil, fun ad hA hn => ?_⟩
  obtain ⟨b, off, e, hc⟩ := h.some_ ad hA hn
  refine ⟨b, off, e, fun i hi => ?_⟩
  rw [hb.cell (p := ⟨b, off + i, none⟩) (block_lt_of_cell (hc i hi))]; exact hc i hi
section
variable {P : Program} {ops : Array Oper} {rest : List Oper} {o : Oper} {a : Act} {Q : Exit → Act → World → Prop}
/-- The same as one step of a region that draws its order. -/
theorem step_push {K : Act → World → Prop} {E : Prop} (wr : World) (hgd : o.guard = none) (s x : Operand) (t e : TypeId) (ho : o.op = .call { callee := .builtin .append, args := #[s, x], argTypes := #[t, t] })
    (B : Nat) (ht : P.underlying t = some (.slice e)) (hi : (P.info? e).map (fun i => (i.zero, i.size, i.bytes)) = some (some (.int .u8 0), 1, 1))
    (v : Value) (l : List UInt8) (hown : Owns wr B e v l) (hs : a.eval s = v) (m : Nat) (us : List UInt8) (hm : us.length = m) (cs : Array Value) (hcs : cs = (bytesV us).toArray)
    {ad : Addr} (had : ad = ⟨wr.heap.size, 0, none⟩) (hx : a.eval x = .slice (some ad) m m) {w0 : World} (hw0 : w0 = wr.alloc (.cells cs e)) (hsz : l.length + m ≤ 1000000000) (hB : B ≤ wr.heap.size)
    (h : ∀ v' w', Owns w' B e v' (l ++ us) → Below B wr w' → K (a.put o.dst v') w') : if Region.wanted o (yielded ops a.tmps) = true then Oper.wp P o a w0 K Q else E := by
  have hw : Region.wanted o (yielded ops a.tmps) = true := by simp [Region.wanted, hgd]
  rw [if_pos hw]
  obtain ⟨i0, hi0, hz0, hz1, hz2⟩ := info_parts hi
  subst hcs hw0 had
  refine wp_append_own _ s x t ho B e i0 (.int .u8 0) 1 1 ht hi0 hz0 hz1 hz2 rfl (by decide) v l.length (bytesV l) hs (World.ownsRow.alloc hown _) ⟨wr.heap.size, 0, none⟩ m m (bytesV us) hx (by rw [bytesV_len, hm]; omega) ?_ (bytesV_one us) (by unfold maxLen; omega) (by omega) (by simp; omega) ?_
  · intro j u hu
    rw [show ((⟨wr.heap.size, 0, none⟩ : Addr).add j) = ⟨wr.heap.size, j, none⟩ from by rw [Addr.add_lit, Nat.zero_add], cell_of_row _ _ _ _ _ _ (heap_alloc_new _ _)]
    simpa using hu
  · intro v' w' h1 h2 _
    refine h v' w' ?_ ?_
    · unfold Owns; rw [bytesV_app, List.length_append, hm]; exact h1
    · refine ((Below.refl B wr).alloc hB _).grown h2 (by simp; omega) (fun k hk => ?_)
      exact (World.ownsRow.lt hown k hk).1
/-- append of all bytes of another slice, onto a slice of the call's own. -/
theorem wpList_spread (wr : World) (hgd : o.guard = none) (s x : Operand) (t e : TypeId) (ho : o.op = .call { callee := .builtin .append, args := #[s, x], argTypes := #[t, t] })
    (B : Nat) (ht : P.underlying t = some (.slice e)) (hi : (P.info? e).map (fun i => (i.zero, i.size, i.bytes)) = some (some (.int .u8 0), 1, 1))
    (v : Value) (l : List UInt8) (hown : Owns wr B e v l) (hs : a.eval s = v) (A : Option Addr) (m c : Nat) (us : List UInt8) (hat : SliceAt wr A m c us)
    (hx : a.eval x = .slice A m c) (hsz : l.length + m ≤ 1000000000) (hB : B ≤ wr.heap.size)
    (h : ∀ v' w', Owns w' B e v' (l ++ us) → Below B wr w' → wpList P ops Q rest (a.put o.dst v') w') : wpList P ops Q (o :: rest) a wr := by
  obtain ⟨i0, hi0, hz0, hz1, hz2⟩ := info_parts hi
  rcases A with _ | ad
  · obtain ⟨h0, h1⟩ := hat.nil rfl
    subst h0 h1
    have hu : us = [] := List.eq_nil_of_length_eq_zero hat.len
    subst hu
    refine wpList_append_own_none hgd s x t ho B e i0 1 ht hi0 v l.length (bytesV l) hs hown hx ?_
    exact h v wr (by simpa using hown) (Below.refl _ _)
  · refine wpList_append_own _ hgd s x t ho B e i0 (.int .u8 0) 1 1 ht hi0 hz0 hz1 hz2 rfl (by decide) v l.length (bytesV l) hs hown ad m c (bytesV us) hx (by rw [bytesV_len, hat.len]; omega) ?_ (bytesV_one us) (by unfold maxLen; omega) (by omega) hB ?_
    · intro j u hu
      have hj : j < m := by
        have h1 : j < (bytesV us).length := by
          rcases Nat.lt_or_ge j (bytesV us).length with h1 | h1
          · exact h1
          · rw [List.getElem?_eq_none h1] at hu; cases hu
        rw [bytesV_len, hat.len] at h1; exact h1
      obtain ⟨b, off, rfl, hc⟩ := hat.some_ ad rfl (by omega)
      rw [bytesV_get _ _ (by rw [hat.len]; omega)] at hu
      rw [Addr.add_lit, hc j hj]; exact hu
    · intro v' w' h1 h2 _
      refine h v' w' ?_ ?_
      · unfold Owns; rw [bytesV_app, List.length_append, hat.len]; exact h1
      · exact (Below.refl B wr).grown h2 hB (fun k hk => (World.ownsRow.lt hown k hk).1)
/-- make of no bytes, with room for some. -/
theorem wpList_room' (wr : World) (hgd : o.guard = none) (l c : Operand) (t e : TypeId) (ho : o.op = Op.makeSlice t l c)
    (B : Nat) (ht : P.underlying t = some (.slice e)) (hi : (P.info? e).map (fun i => (i.zero, i.size, i.bytes)) = some (some (.int .u8 0), 1, 1))
    (n : Nat) {C : Int} (hl : a.eval l = .int .i64 0) (hc : a.eval c = .int .i64 C) (hC : C = (n : Int)) (hn : n ≤ 1000000000) (hB : B ≤ wr.heap.size)
    (h : ∀ v' w', Owns w' B e v' [] → Below B wr w' → wpList P ops Q rest (a.put o.dst v') w') : wpList P ops Q (o :: rest) a wr := by
  obtain ⟨i0, hi0, hz0, hz1, hz2⟩ := info_parts hi
  refine wpList_make_own wr hgd l c t ho B e i0 (.int .u8 0) 1 ht hi0 hz0 hz1 .i64 .i64 _ n hl hc hC (by rw [hz2]; omega) (by unfold maxLen; omega) hB ?_
  intro w' h1 h2
  exact h _ w' h1 ((Below.refl B wr).grown h2 hB (fun k hk => by cases hk))
end
theorem run_conv_owned {P : Program} (w : World) (src e dst : TypeId) (hs : P.underlying src = some (.slice e)) (he : P.underlying e = some (.int .u8)) (hd : P.underlying dst = some .string)
    (g off : Nat) (l : List UInt8) (n : Nat) (hn : l.length = n) (hc : ∀ i, i < n → w.cell? ⟨g, off + i, none⟩ = some (bv (l.getD i 0))) (cap : Nat) :
    (convert src dst (.slice (some ⟨g, off, none⟩) n cap)).run P w = .ok (.string (strOf l)) w := by
  have hsz := strOf_size l
  have h := Lib.run_convert_whole (P := P) w src e dst hs he hd g off (strOf l) (fun i hi => by
    have h1 : i < l.length := by omega
    have h2 : (strOf l)[i]'hi = l.getD i 0 := by simp [strOf, ByteArray.getElem_eq_getElem_data, h1]
    have h3 : bv (l.getD i 0) = .int .u8 (((strOf l)[i]'hi).toNat : Int) := by unfold bv w8; exact congrArg (fun x : UInt8 => Value.int .u8 (x.toNat : Int)) h2.symm
    exact (hc i (by omega)).trans (congrArg some h3)) cap
  rw [hsz, hn] at h
  exact h
/-- Byte k of a number of 8 bytes, the most significant first. -/
def sh8 (v k : Nat) : Nat := v / 2 ^ (56 - 8 * k)
def wideAt (v k : Nat) : UInt8 := UInt8.ofNat (sh8 v k)
def wideTo (v k : Nat) : List UInt8 := (List.range k).map (wideAt v)
def wide (v : Nat) : List UInt8 := wideTo v 8
theorem wideTo_succ (v k : Nat) : wideTo v (k + 1) = wideTo v k ++ [wideAt v k] := by simp [wideTo, List.range_succ]
theorem wideTo_len (v k : Nat) : (wideTo v k).length = k := by simp [wideTo]
theorem wideAt_eq (v k : Nat) : (v : Int) / 2 ^ (56 - 8 * k) % 256 = w8 (wideAt v k) := by
  unfold wideAt w8 sh8; rw [UInt8.toNat_ofNat']; simp
end Go.Proofs.YtnjilfdmplbalaaGreatDoor
