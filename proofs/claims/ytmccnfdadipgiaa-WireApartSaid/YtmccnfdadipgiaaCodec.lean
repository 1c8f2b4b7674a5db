/- What was written one after the other is taken again: plain facts about bytes. -/
import Derived.Test.YtmccnfdadipgiaaTaken
namespace Go.Proofs.Ytmccnfdadipgiaa
open Go.RowKit
def inI64 (x : Int) : Prop := -9223372036854775808 ≤ x ∧ x ≤ 9223372036854775807
theorem take8 (v : Int) (r : List UInt8) : (be8 v ++ r).take 8 = be8 v := by
  rw [List.take_append_of_le_length (by rw [be8_len]; exact Nat.le_refl _), List.take_of_length_le (by rw [be8_len]; exact Nat.le_refl _)]
theorem drop8 (v : Int) (r : List UInt8) : (be8 v ++ r).drop 8 = r := by
  have := List.drop_left (l₁ := be8 v) (l₂ := r)
  rw [be8_len] at this; exact this
theorem cnt_be8 (v : Int) (r : List UInt8) (h : inI64 v) : cnt (be8 v ++ r) = v := by
  unfold cnt; rw [take8, int8_be8 v h.1 h.2]
theorem drop_add (k j : Nat) (l : List UInt8) : l.drop (k + j) = (l.drop k).drop j := by rw [List.drop_drop]
theorem textB_cnt (s r : List UInt8) (h : s.length ≤ 1000000) : cnt (textB s ++ r) = (s.length : Int) := by
  unfold textB; rw [List.append_assoc]; exact cnt_be8 _ _ ⟨by omega, by omega⟩
theorem textB_text (s r : List UInt8) : ((textB s ++ r).drop 8).take s.length = s := by
  unfold textB; rw [List.append_assoc, drop8]; exact List.take_left
theorem textB_rest (s r : List UInt8) : (textB s ++ r).drop (8 + s.length) = r := by
  unfold textB; rw [drop_add, List.append_assoc, drop8]; exact List.drop_left
theorem listB_cons (x : Int) (l : List Int) : listB (x :: l) = be8 x ++ listB l := rfl
theorem listB_drop (l : List Int) : ∀ (i : Nat) (r : List UInt8), i ≤ l.length → (listB l ++ r).drop (8 * i) = listB (l.drop i) ++ r := by
  induction l with
  | nil => intro i r h; have : i = 0 := by simpa using h
           subst this; rfl
  | cons x l ih =>
    intro i r h
    cases i with
    | zero => rfl
    | succ i =>
      rw [listB_cons, List.append_assoc, show 8 * (i + 1) = 8 + 8 * i from by omega, drop_add, drop8, List.drop_succ_cons]
      exact ih i r (by simpa using h)
theorem intsB_cnt (l : List Int) (r : List UInt8) (h : l.length ≤ 1000000) : cnt (intsB l ++ r) = (l.length : Int) := by
  unfold intsB; rw [List.append_assoc]; exact cnt_be8 _ _ ⟨by omega, by omega⟩
theorem intsB_at (l : List Int) (r : List UInt8) (hl : ∀ z ∈ l, inI64 z) (i : Nat) (h : i < l.length) : intAt (intsB l ++ r) i = l[i] := by
  unfold intAt intsB
  rw [List.append_assoc, drop_add, drop8, listB_drop l i r (by omega), List.drop_eq_getElem_cons h, listB_cons, List.append_assoc, take8]
  have := hl l[i] (List.getElem_mem h)
  exact int8_be8 _ this.1 this.2
theorem intsB_list (l : List Int) (r : List UInt8) (hl : ∀ z ∈ l, inI64 z) : intsAt (intsB l ++ r) l.length = l := by
  apply List.ext_getElem
  · rw [intsAt_len]
  · intro i h1 h2
    rw [← intsB_at l r hl i h2]
    simp [intsAt]
theorem intsB_rest (l : List Int) (r : List UInt8) : (intsB l ++ r).drop (8 + 8 * l.length) = r := by
  unfold intsB
  rw [drop_add, List.append_assoc, drop8, listB_drop l _ r (Nat.le_refl _), List.drop_length]; rfl
/-- What was written is taken; a byte less, or less permitted, is not. -/
theorem text_ok (s r : List UInt8) (h : s.length ≤ 1000000) : CountOk (textB s ++ r) (s.length : Int) 1 := by
  have hc := textB_cnt s r h
  refine ⟨by rw [List.length_append, textB_len]; omega, by rw [hc]; omega, by rw [hc]; omega, ?_⟩
  rw [hc, List.length_append, textB_len, Nat.div_one]; omega
theorem text_few (s r : List UInt8) (h : s.length ≤ 1000000) : ¬ CountOk (textB s ++ r) ((s.length : Int) - 1) 1 := fun h1 => by
  have h2 := h1.le
  rw [textB_cnt s r h] at h2; omega
theorem list_ok (l : List Int) (r : List UInt8) (h : l.length ≤ 1000000) : CountOk (intsB l ++ r) (l.length : Int) 8 := by
  have hc := intsB_cnt l r h
  refine ⟨by rw [List.length_append, intsB_len]; omega, by rw [hc]; omega, by rw [hc]; omega, ?_⟩
  rw [hc, List.length_append, intsB_len]; omega
theorem list_less (l : List Int) (h : l.length ≤ 1000000) : ¬ CountOk ((intsB l).take (7 + 8 * l.length)) (l.length : Int) 8 := fun h1 => by
  have h2 := h1.fit
  have h3 := h1.len
  have hc : cnt ((intsB l).take (7 + 8 * l.length)) = (l.length : Int) := by
    unfold cnt
    rw [List.length_take, intsB_len] at h3
    rw [List.take_take, Nat.min_eq_left (by omega)]
    have := intsB_cnt l [] h
    rw [List.append_nil] at this; exact this
  rw [hc, List.length_take, intsB_len] at h2
  rw [List.length_take, intsB_len] at h3
  omega
end Go.Proofs.Ytmccnfdadipgiaa
