import Derived.Test.YtdildmfjekdlgaaPackAR
import Derived.Test.YtdildmfjekdlgaaGWithP
import Derived.Deep.LoopGhost
import Derived.Sort.WalkB12
import Derived.Sort.WalkB2
import Derived.BigRegion
/- The walk of slices.Reverse. -/
namespace Go.Proofs.Ytdildmfjekdlgaa
open Go.RowKit
/-- A list of which i elements at each end have changed places. -/
structure RevI (L : List Int) (i : Nat) (M : List Int) : Prop where
  len : M.length = L.length
  at_ : ∀ k, k < L.length → M.getD k 0 = if k < i ∨ L.length - i ≤ k then L.getD (L.length - 1 - k) 0 else L.getD k 0
theorem RevI.zero (L : List Int) : RevI L 0 L := ⟨rfl, fun k hk => by rw [if_neg (by omega)]⟩
theorem getD_set (l : List Int) (i : Nat) (v : Int) (hi : i < l.length) (k : Nat) : (l.set i v).getD k 0 = if i = k then v else l.getD k 0 := by
  rw [List.getD_eq_getElem?_getD, List.getElem?_set, List.getD_eq_getElem?_getD]
  split
  · first | (rw [if_pos hi]; rfl) | rfl
  · rfl
theorem RevI.step {L : List Int} {i : Nat} {M : List Int} (h : RevI L i M) (hi : i + i + 1 < L.length) : RevI L (i + 1) ((M.set i (M.getD (L.length - 1 - i) 0)).set (L.length - 1 - i) (M.getD i 0)) := by
  refine ⟨by rw [List.length_set, List.length_set]; exact h.len, fun k hk => ?_⟩
  rw [getD_set _ _ _ (by rw [List.length_set, h.len]; omega), getD_set _ _ _ (by rw [h.len]; omega), h.at_ i (by omega), h.at_ (L.length - 1 - i) (by omega), h.at_ k hk]
  rw [if_neg (c := i < i ∨ L.length - i ≤ i) (by omega), if_neg (c := L.length - 1 - i < i ∨ L.length - i ≤ L.length - 1 - i) (by omega)]
  by_cases h1 : L.length - 1 - i = k
  · rw [if_pos h1, if_pos (by omega)]
    congr 1; omega
  · rw [if_neg h1]
    by_cases h2 : i = k
    · subst h2
      rw [if_pos rfl, if_pos (by omega)]
    · rw [if_neg h2]
      by_cases h3 : k < i ∨ L.length - i ≤ k
      · rw [if_pos h3, if_pos (by omega)]
      · rw [if_neg h3, if_neg (by omega)]
theorem RevI.done {L : List Int} {i : Nat} {M : List Int} (h : RevI L i M) (hi : L.length ≤ i + i + 1) : M = L.reverse := by
  apply List.ext_getElem
  · rw [h.len, List.length_reverse]
  · intro k h1 h2
    have h3 := h.at_ k (by rw [← h.len]; exact h1)
    have hkl : k < L.length := by rw [← h.len]; exact h1
    rw [List.getD_eq_getElem?_getD, List.getElem?_eq_getElem h1, List.getElem_reverse] at *
    have h4 : M[k] = if k < i ∨ L.length - i ≤ k then L.getD (L.length - 1 - k) 0 else L.getD k 0 := h3
    rw [h4, List.getD_eq_getElem?_getD, List.getElem?_eq_getElem (by omega), List.getD_eq_getElem?_getD, List.getElem?_eq_getElem hkl]
    split
    · rfl
    · have : L.length - 1 - k = k := by omega
      simp only [this]; rfl
theorem own_i {w : World} {B g n cap : Nat} {xs : List Int} (h : w.ownsRow B 3 1 (.slice (some ⟨g, 0, none⟩) n cap) n (intsV xs)) {i : Nat} (hi : i < n) : w.cell? ⟨g, i, none⟩ = some (.int .i64 (xs.getD i 0)) ∧ w.frozen? ⟨g, i, none⟩ = false := by
  have hl : xs.length = n := by have := h.1; rw [intsV_len, Nat.mul_one] at this; exact this
  exact ⟨by rw [h.cellAt i (by omega), intsV_get _ _ (by omega)]; rfl, h.frozenAt i⟩
theorem own_someI {w : World} {B : Nat} {e : TypeId} {sz : Nat} {v : Value} {n : Nat} {xs : List Value} (h : w.ownsRow B e sz v n xs) (hn : 0 < n) : ∃ g c, v = .slice (some ⟨g, 0, none⟩) n c := by
  rcases h.2 with ⟨_, h0⟩ | ⟨g, cap, cur, rfl, _⟩
  · omega
  · exact ⟨g, cap, rfl⟩
theorem own_rowI12 {w : World} {B : Nat} {A : Option Addr} {n c : Nat} {l : List Int} (h : w.ownsRow B 3 1 (.slice A n c) n (intsV l)) : IRow w A n c l := by
  obtain ⟨A7, c7, he, hr⟩ := Row.of_own h
  injection he with e1 e2 e3
  subst e1 e3
  exact hr
theorem own_seti {w : World} {B g n cap : Nat} {xs : List Int} (h : w.ownsRow B 3 1 (.slice (some ⟨g, 0, none⟩) n cap) n (intsV xs)) (i : Nat) (u : Int) : (w.setCell ⟨g, i, none⟩ (.int .i64 u)).ownsRow B 3 1 (.slice (some ⟨g, 0, none⟩) n cap) n (intsV (xs.set i u)) := by
  have h1 := (h.stored i (.int .i64 u)).1
  unfold intsV at h1 ⊢
  rw [List.map_set]
  exact h1
end Go.Proofs.Ytdildmfjekdlgaa
