import Derived.Test.YtdildmfjekdlgaaPackAB
import Derived.StillTailTactics
import Derived.Deep.QuietTactic
import Derived.BigQuiet
import Derived.BigRegion
/- The walk of the reference's block. -/
namespace Go.Proofs.Ytdildmfjekdlgaa
open Go.RowKit
/-- Words in a block of their own, from its head on. -/
def WB (w : World) (g : Nat) (l : List UInt32) : Prop := ∀ i, i < l.length → w.cell? ⟨g, i, none⟩ = some (.int .u32 (w32 (Sha.at_ l i)))
theorem WB.below {B g : Nat} {w w' : World} {l : List UInt32} (h : WB w g l) (hb : Below B w w') (hg : g < B) : WB w' g l := fun i hi => (hb.cell (p := ⟨g, i, none⟩) hg).trans (h i hi)
theorem WB.lt {g : Nat} {w : World} {l : List UInt32} (h : WB w g l) (hl : 0 < l.length) : g < w.heap.size := block_lt_of_cell (h 0 hl)
/-- While the block's words are laid. -/
def BInv (w wr : World) (l : List UInt32) : Prop := wr.heap[w.heap.size]? = some (.cells (cellsW l 64) 83 (0, 0)) ∧ Below w.heap.size w wr
theorem BInv.set {w wr : World} {l : List UInt32} (h : BInv w wr l) {k : Nat} (hk : k = l.length) (x : UInt32) (hl : k < 64) :
    BInv w (wr.setCell ⟨w.heap.size, k, none⟩ (.int .u32 (w32 x))) (l ++ [x]) := by
  subst hk
  obtain ⟨h1, h3⟩ := h
  exact ⟨by rw [heap_setCell_same _ _ _ _ _ _ h1, cellsW_push _ _ _ hl], h3.setCell (by simp) _⟩
theorem BInv.drewN {w wr : World} {l : List UInt32} (h : BInv w wr l) (n : Nat) : BInv w (wr.drewN n) l := ⟨h.1, ⟨h.2.os, h.2.tape, h.2.output, h.2.size, h.2.block⟩⟩
theorem BInv.drew {w wr : World} {l : List UInt32} (h : BInv w wr l) : BInv w wr.drew l := ⟨h.1, h.2.drew⟩
theorem BInv.start (w : World) : BInv w (w.alloc (.cells (cellsW [] 64) 83)) [] := ⟨heap_alloc_new _ _, (Below.refl _ _).alloc (Nat.le_refl _) _⟩
/-- A row of words that may be written. -/
def WR (w : World) (g : Nat) (l : List UInt32) : Prop := ∃ cur, w.heap[g]? = some (.cells cur 83 (0, 0)) ∧ ∀ i, i < l.length → cur[i]? = some (.int .u32 (w32 (Sha.at_ l i)))
theorem WR.wb {w : World} {g : Nat} {l : List UInt32} (h : WR w g l) : WB w g l := fun i hi => by
  obtain ⟨cur, h1, h2⟩ := h
  rw [cell_of_row _ _ _ _ _ _ h1]; exact h2 i hi
theorem WR.frozen {w : World} {g : Nat} {l : List UInt32} (h : WR w g l) (i : Nat) : w.frozen? ⟨g, i, none⟩ = false := by
  obtain ⟨cur, h1, _⟩ := h; exact frozen_of_row _ _ _ _ _ h1
def wordsV (l : List UInt32) : List Value := l.map (fun x => Value.int .u32 (w32 x))
theorem wordsV_get (l : List UInt32) (i : Nat) (h : i < l.length) : (wordsV l)[i]? = some (.int .u32 (w32 (Sha.at_ l i))) := by simp [wordsV, Sha.at_, h]
theorem WR.set {w : World} {g : Nat} {l : List UInt32} (h : WR w g l) {k : Nat} (hk : k < l.length) (x : UInt32) : WR (w.setCell ⟨g, k, none⟩ (.int .u32 (w32 x))) g (l.set k x) := by
  obtain ⟨cur, h1, h2⟩ := h
  have hkc : k < cur.size := by
    rcases Nat.lt_or_ge k cur.size with h3 | h3
    · exact h3
    · have := h2 k hk; rw [Array.getElem?_eq_none h3] at this; cases this
  refine ⟨cur.setIfInBounds k (.int .u32 (w32 x)), heap_setCell_same _ _ _ _ _ _ h1, fun i hi => ?_⟩
  rw [List.length_set] at hi
  by_cases e : k = i
  · subst e
    rw [Array.getElem?_setIfInBounds_self_of_lt hkc]
    simp [Sha.at_, hi]
  · rw [Array.getElem?_setIfInBounds_ne e, h2 i hi]
    simp [Sha.at_, e]
/-- While the rounds are run: the row at g holds the state t, and below W4's end nothing has changed. -/
def R3 (W4 wr : World) (base g : Nat) (t : Sha.St) : Prop := base ≤ g ∧ WR wr g (Sha.toL t) ∧ Below W4.heap.size W4 wr
theorem R3.drewN {W4 wr : World} {base g : Nat} {t : Sha.St} (h : R3 W4 wr base g t) (n : Nat) : R3 W4 (wr.drewN n) base g t :=
  ⟨h.1, h.2.1, ⟨h.2.2.os, h.2.2.tape, h.2.2.output, h.2.2.size, h.2.2.block⟩⟩
theorem R3.drew {W4 wr : World} {base g : Nat} {t : Sha.St} (h : R3 W4 wr base g t) : R3 W4 wr.drew base g t := ⟨h.1, h.2.1, h.2.2.drew⟩
theorem R3.c0 {W4 wr : World} {base g : Nat} {t : Sha.St} (h : R3 W4 wr base g t) : wr.cell? ⟨g, 0, none⟩ = some (.int .u32 (w32 t.a)) := h.2.1.wb 0 (by rw [Sha.toL_len]; omega)
theorem R3.c1 {W4 wr : World} {base g : Nat} {t : Sha.St} (h : R3 W4 wr base g t) : wr.cell? ⟨g, 1, none⟩ = some (.int .u32 (w32 t.b)) := h.2.1.wb 1 (by rw [Sha.toL_len]; omega)
theorem R3.c2 {W4 wr : World} {base g : Nat} {t : Sha.St} (h : R3 W4 wr base g t) : wr.cell? ⟨g, 2, none⟩ = some (.int .u32 (w32 t.c)) := h.2.1.wb 2 (by rw [Sha.toL_len]; omega)
theorem R3.c3 {W4 wr : World} {base g : Nat} {t : Sha.St} (h : R3 W4 wr base g t) : wr.cell? ⟨g, 3, none⟩ = some (.int .u32 (w32 t.d)) := h.2.1.wb 3 (by rw [Sha.toL_len]; omega)
theorem R3.c4 {W4 wr : World} {base g : Nat} {t : Sha.St} (h : R3 W4 wr base g t) : wr.cell? ⟨g, 4, none⟩ = some (.int .u32 (w32 t.e)) := h.2.1.wb 4 (by rw [Sha.toL_len]; omega)
theorem R3.c5 {W4 wr : World} {base g : Nat} {t : Sha.St} (h : R3 W4 wr base g t) : wr.cell? ⟨g, 5, none⟩ = some (.int .u32 (w32 t.f)) := h.2.1.wb 5 (by rw [Sha.toL_len]; omega)
theorem R3.c6 {W4 wr : World} {base g : Nat} {t : Sha.St} (h : R3 W4 wr base g t) : wr.cell? ⟨g, 6, none⟩ = some (.int .u32 (w32 t.g)) := h.2.1.wb 6 (by rw [Sha.toL_len]; omega)
theorem R3.c7 {W4 wr : World} {base g : Nat} {t : Sha.St} (h : R3 W4 wr base g t) : wr.cell? ⟨g, 7, none⟩ = some (.int .u32 (w32 t.h)) := h.2.1.wb 7 (by rw [Sha.toL_len]; omega)
theorem R3.new {W4 wr : World} {base g : Nat} {t : Sha.St} (h : R3 W4 wr base g t) (h4 : base ≤ W4.heap.size) (t' : Sha.St) (cs : Array Value) (hcs : cs = (wordsV (Sha.toL t')).toArray) :
    R3 W4 (wr.alloc (.cells cs 83)) base wr.heap.size t' := by
  subst hcs
  have hs := h.2.2.size
  exact ⟨by omega, ⟨_, heap_alloc_new _ _, fun i hi => by simpa using wordsV_get _ i hi⟩, h.2.2.alloc hs _⟩
end Go.Proofs.Ytdildmfjekdlgaa
