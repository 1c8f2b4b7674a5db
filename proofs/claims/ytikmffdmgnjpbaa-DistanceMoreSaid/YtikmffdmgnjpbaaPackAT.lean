import Derived.Sort.LotA
import Derived.Shelf.SlSortCmp.Insertion1
import Derived.Sort.WalkB2
import Derived.Sort.WalkB12
import Derived.Deep.LoopGhost
import Derived.Test.YtikmffdmgnjpbaaPackAJ
/- Plain facts on a stable sort by merging in place: elements carry the place where they stood. -/
namespace Go.Proofs.Ytikmffdmgnjpbaa
open Go.Sort
variable {α : Type}
/-- Less, or neither is less and it stood ahead. -/
def ltt (lt : α → α → Bool) (x y : α × Nat) : Bool := lt x.1 y.1 || (!lt y.1 x.1 && decide (x.2 < y.2))
def ltp (lt : α → α → Bool) (x y : α × Nat) : Bool := lt x.1 y.1
variable {lt : α → α → Bool}
theorem ltt_of_ltp {x y : α × Nat} (h : ltp lt x y = true) : ltt lt x y = true := by
  unfold ltt; unfold ltp at h; rw [h]; rfl
theorem ltt_cross {x y : α × Nat} (h : x.2 < y.2) : ltt lt y x = ltp lt y x := by
  unfold ltt ltp
  rw [show decide (y.2 < x.2) = false from decide_eq_false (by omega), Bool.and_false, Bool.or_false]
theorem ltt_swo (h : SWO lt) : SWO (ltt lt) := by
  refine ⟨fun x => ?_, fun x y z => ?_, fun x y z => ?_⟩
  · unfold ltt; rw [h.irrefl]; simp
  · unfold ltt
    intro h1 h2
    rw [Bool.or_eq_true, Bool.and_eq_true, decide_eq_true_eq, Bool.not_eq_true'] at h1 h2 ⊢
    rcases h1 with h1 | ⟨h1, h1'⟩ <;> rcases h2 with h2 | ⟨h2, h2'⟩
    · exact .inl (h.trans _ _ _ h1 h2)
    · cases hxz : lt x.1 z.1 with
      | true => exact .inl rfl
      | false =>
        have := h.ntrans _ _ _ hxz h2
        rw [h1] at this; cases this
    · cases hxz : lt x.1 z.1 with
      | true => exact .inl rfl
      | false =>
        have := h.ntrans _ _ _ h1 hxz
        rw [h2] at this; cases this
    · exact .inr ⟨h.ntrans _ _ _ h2 h1, by omega⟩
  · unfold ltt
    intro h1 h2
    rw [Bool.or_eq_false_iff, Bool.and_eq_false_iff, decide_eq_false_iff_not, Bool.not_eq_false'] at h1 h2 ⊢
    obtain ⟨h1, h1'⟩ := h1
    obtain ⟨h2, h2'⟩ := h2
    refine ⟨h.ntrans _ _ _ h1 h2, ?_⟩
    cases hzx : lt z.1 x.1 with
    | true => exact .inl rfl
    | false =>
      refine .inr ?_
      have e1 : lt y.1 x.1 = false := h.ntrans _ _ _ h2 hzx
      have e2 : lt z.1 y.1 = false := h.ntrans _ _ _ hzx h1
      rw [e1] at h1'
      rw [e2] at h2'
      have := h1'.resolve_left (by decide)
      have := h2'.resolve_left (by decide)
      omega
variable [Inhabited α]
/-- Places that stood ahead of other places. -/
def Tags (a m b : Nat) (d : Array (α × Nat)) : Prop := ∀ i j, a ≤ i → i < m → m ≤ j → j < b → d[i]!.2 < d[j]!.2
/- insertionSort -/
theorem insInner_tag (hS : SWO lt) (a i : Nat) : ∀ (j : Nat) (d : Array (α × Nat)), a ≤ j → j ≤ i → i < d.size → Ins (ltt lt) a j i d → (∀ p, a ≤ p → p ≤ i → p ≠ j → d[p]!.2 < d[j]!.2) →
    PermIn a (i + 1) d (insInner (ltp lt) a j d) ∧ SortedIn (ltt lt) a (i + 1) (insInner (ltp lt) a j d)
  | 0, d, _, _, _, hI, _ => by
    unfold insInner
    exact ⟨permIn_refl d a _, hI.stop (ltt_swo hS) (.inl (Nat.zero_le _))⟩
  | j + 1, d, haj, hji, hb, hI, hT => by
    unfold insInner
    split
    · rename_i hc
      simp only [Bool.and_eq_true, decide_eq_true_eq] at hc
      have g := swp_get d (show j + 1 < d.size by omega) (show j < d.size by omega)
      have ih := insInner_tag hS a i j (swp d (j + 1) j) (by omega) (by omega) (by rw [swp_size]; exact hb) (hI.step (ltt_of_ltp hc.2) (by omega) (by omega)) (fun p h1 h2 h3 => by
        rw [g p, g j, if_pos rfl, if_neg h3]
        split
        · exact hT j (by omega) (by omega) (by omega)
        · rename_i h4; exact hT p h1 h2 h4)
      exact ⟨permIn_trans _ _ _ a _ (swp_permIn d a _ (j + 1) j haj (by omega) (by omega) (by omega) (by omega)) ih.1, ih.2⟩
    · rename_i hc
      simp only [Bool.and_eq_true, decide_eq_true_eq, not_and, Bool.not_eq_true] at hc
      refine ⟨permIn_refl d a _, hI.stop (ltt_swo hS) ?_⟩
      by_cases h : j + 1 > a
      · refine .inr ?_
        rw [Nat.add_sub_cancel, ltt_cross (hT j (by omega) (by omega) (by omega))]
        exact hc h
      · exact .inl (by omega)
theorem insOuter_tag (hS : SWO lt) (a b : Nat) : ∀ (n i : Nat) (d : Array (α × Nat)), b - i = n → a < i → i ≤ b → b ≤ d.size → SortedIn (ltt lt) a i d → Tags a i b d → (∀ p q, i ≤ p → p < q → q < b → d[p]!.2 < d[q]!.2) →
    PermIn a b d (insOuter (ltp lt) a b i d) ∧ SortedIn (ltt lt) a b (insOuter (ltp lt) a b i d)
  | 0, i, d, hn, _, hib, _, hs, _, _ => by
    obtain rfl : i = b := by omega
    rw [insOuter, if_neg (by omega)]
    exact ⟨permIn_refl d a i, hs⟩
  | n + 1, i, d, hn, hai, hib, hb, hs, hT, hR => by
    have hlt : i < b := by omega
    rw [insOuter, if_pos hlt]
    have h1 := insInner_tag hS a i i d (by omega) (Nat.le_refl _) (by omega) ⟨fun p q hap hpq hqi _ hq => hs p q hap hpq (by omega), fun q h1 h2 => by omega⟩ (fun p h1 h2 h3 => hT p i h1 (by omega) (Nat.le_refl _) hlt)
    have h3 := h1.1
    have hall : ∀ q, i < q → q < b → ∀ p, a ≤ p → p < i + 1 → (insInner (ltp lt) a i d)[p]!.2 < d[q]!.2 := fun q h4 h5 => permIn_all d _ a (i + 1) (fun x => x.2 < d[q]!.2) (by omega) h3 (fun p h6 h7 => by
      by_cases h8 : p = i
      · rw [h8]; exact hR i q (Nat.le_refl _) h4 h5
      · exact hT p q h6 (by omega) (by omega) h5)
    have h2 := insOuter_tag hS a b n (i + 1) (insInner (ltp lt) a i d) (by omega) (by omega) (by omega) (by rw [h3.1]; exact hb) h1.2 (fun p q h4 h5 h6 h7 => by
        rw [h3.2.1 q (.inr h6)]
        exact hall q (by omega) h7 p h4 h5) (fun p q h4 h5 h6 => by
        rw [h3.2.1 p (.inr h4), h3.2.1 q (.inr (by omega))]
        exact hR p q (by omega) h5 h6)
    exact ⟨permIn_trans _ _ _ a b (permIn_mono d _ a (i + 1) a b (Nat.le_refl _) hlt hb h3) h2.1, h2.2⟩
theorem insertionSort_tag (hS : SWO lt) (d : Array (α × Nat)) (a b : Nat) (hab : a ≤ b) (hb : b ≤ d.size) (hR : ∀ p q, a ≤ p → p < q → q < b → d[p]!.2 < d[q]!.2) :
    PermIn a b d (insertionSort (ltp lt) d a b) ∧ SortedIn (ltt lt) a b (insertionSort (ltp lt) d a b) := by
  unfold insertionSort
  by_cases h : a = b
  · subst h
    rw [insOuter, if_neg (by omega)]
    exact ⟨permIn_refl d a a, fun i j h1 h2 h3 => by omega⟩
  · exact insOuter_tag hS a b (b - (a + 1)) (a + 1) d rfl (by omega) (by omega) hb (fun i j h1 h2 h3 => by omega) (fun i j h1 h2 h3 h4 => hR i j h1 (by omega) h4) (fun p q h1 h2 h3 => hR p q (by omega) h2 h3)
/- swapRange, rotate -/
/-- n elements from a on and from b on have changed places. -/
def Swr (a b n : Nat) (d d' : Array α) : Prop := d'.size = d.size ∧ ∀ x, x < d.size → d'[x]! = d[if a ≤ x ∧ x < a + n then x - a + b else if b ≤ x ∧ x < b + n then x - b + a else x]!
theorem Swr.zero (a b : Nat) (d : Array α) : Swr a b 0 d d := ⟨rfl, fun x _ => by rw [if_neg (by omega), if_neg (by omega)]⟩
theorem Swr.step {a b i : Nat} {d d' : Array α} (h : Swr a b i d d') (hab : a + i < b) (hb : b + i < d.size) : Swr a b (i + 1) d (swp d' (a + i) (b + i)) := by
  refine ⟨by rw [swp_size, h.1], fun x hx => ?_⟩
  rw [swp_get d' (by rw [h.1]; omega) (by rw [h.1]; exact hb)]
  by_cases h1 : x = b + i
  · subst h1
    rw [if_pos rfl, h.2 (a + i) (by omega), if_neg (by omega), if_neg (by omega), if_neg (by omega), if_pos (by omega)]
    congr 1; omega
  · rw [if_neg h1]
    by_cases h2 : x = a + i
    · subst h2
      rw [if_pos rfl, h.2 (b + i) hb, if_neg (by omega), if_neg (by omega), if_pos (by omega)]
      congr 1; omega
    · rw [if_neg h2, h.2 x hx]
      by_cases h3 : a ≤ x ∧ x < a + i
      · rw [if_pos h3, if_pos (by omega)]
      · by_cases h4 : b ≤ x ∧ x < b + i
        · rw [if_neg h3, if_pos h4, if_neg (by omega), if_pos (by omega)]
        · rw [if_neg h3, if_neg h4, if_neg (by omega), if_neg (by omega)]
/-- What lies from lo to m and what lies from m to hi have changed places. -/
def Rot (lo m hi : Nat) (d d' : Array α) : Prop := d'.size = d.size ∧ ∀ x, x < d.size → d'[x]! = d[if lo ≤ x ∧ x < lo + (hi - m) then x + (m - lo) else if lo + (hi - m) ≤ x ∧ x < hi then x - (hi - m) else x]!
theorem Rot.of_swr {m i : Nat} {d d' : Array α} (hi : i ≤ m) (h : Swr (m - i) m i d d') : Rot (m - i) m (m + i) d d' := by
  refine ⟨h.1, fun x hx => ?_⟩
  rw [h.2 x hx]
  by_cases h1 : m - i ≤ x ∧ x < m
  · rw [if_pos (by omega), if_pos (by omega)]; congr 1; omega
  · by_cases h2 : m ≤ x ∧ x < m + i
    · rw [if_neg (by omega), if_pos (by omega), if_neg (by omega), if_pos (by omega)]; congr 1; omega
    · rw [if_neg (by omega), if_neg (by omega), if_neg (by omega), if_neg (by omega)]
theorem Rot.left {m i j : Nat} {d d1 d' : Array α} (hi : i ≤ m) (hj : j < i) (hs : m + j ≤ d.size) (h : Swr (m - i) m j d d1) (k : Rot (m - (i - j)) m (m + j) d1 d') : Rot (m - i) m (m + j) d d' := by
  refine ⟨k.1.trans h.1, fun x hx => ?_⟩
  rw [k.2 x (by rw [h.1]; exact hx)]
  by_cases h1 : m - i ≤ x ∧ x < m - i + j
  · rw [if_neg (by omega), if_neg (by omega), h.2 x hx, if_pos (by omega), if_pos (by omega)]; congr 1; omega
  · by_cases h2 : m - i + j ≤ x ∧ x < m + j
    · rw [if_neg (c := m - i ≤ x ∧ x < m - i + (m + j - m)) (by omega), if_pos (c := m - i + (m + j - m) ≤ x ∧ x < m + j) (by omega)]
      by_cases h3 : x < m - i + 2 * j
      · rw [if_pos (by omega), h.2 _ (by omega)]
        by_cases h4 : x + (i - j) < m
        · exfalso; omega
        · rw [if_neg (by omega), if_pos (by omega)]; congr 1; omega
      · rw [if_neg (by omega), if_pos (by omega), h.2 _ (by omega), if_neg (by omega), if_neg (by omega)]
    · rw [if_neg (by omega), if_neg (by omega), h.2 x hx, if_neg (by omega), if_neg (by omega), if_neg (by omega), if_neg (by omega)]
theorem Rot.right {m i j : Nat} {d d1 d' : Array α} (hi : i ≤ m) (hj : i < j) (hs : m + j ≤ d.size) (h : Swr (m - i) (m + j - i) i d d1) (k : Rot (m - i) m (m + (j - i)) d1 d') : Rot (m - i) m (m + j) d d' := by
  refine ⟨k.1.trans h.1, fun x hx => ?_⟩
  rw [k.2 x (by rw [h.1]; exact hx)]
  by_cases h1 : m - i ≤ x ∧ x < m - i + j
  · rw [if_pos (c := m - i ≤ x ∧ x < m - i + (m + j - m)) (by omega)]
    by_cases h3 : x < m - i + (j - i)
    · rw [if_pos (by omega), h.2 _ (by omega), if_neg (by omega), if_neg (by omega)]
    · rw [if_neg (by omega), if_pos (by omega), h.2 _ (by omega), if_pos (by omega)]; congr 1; omega
  · by_cases h2 : m - i + j ≤ x ∧ x < m + j
    · rw [if_neg (c := m - i ≤ x ∧ x < m - i + (m + j - m)) (by omega), if_pos (c := m - i + (m + j - m) ≤ x ∧ x < m + j) (by omega), if_neg (by omega), if_neg (by omega), h.2 _ (by omega), if_neg (by omega), if_pos (by omega)]
      congr 1; omega
    · rw [if_neg (by omega), if_neg (by omega), h.2 x hx, if_neg (by omega), if_neg (by omega), if_neg (by omega), if_neg (by omega)]
theorem Rot.same {lo m hi : Nat} {d : Array α} (h : lo = m ∨ m = hi ∨ hi ≤ m) : Rot lo m hi d d := ⟨rfl, fun x _ => by
  split
  · congr 1; omega
  · split
    · congr 1; omega
    · rfl⟩
/-- One element moves up, a place a step. -/
theorem Rot.start (a : Nat) (d : Array α) : Rot a (a + 1) (a + 1) d d := ⟨rfl, fun x _ => by
  rw [if_neg (by omega)]
  split <;> congr 1 <;> omega⟩
theorem Rot.up {a k : Nat} {d d' : Array α} (h : Rot a (a + 1) (k + 1) d d') (hk : a ≤ k) (hs : k + 1 < d.size) : Rot a (a + 1) (k + 2) d (swp d' k (k + 1)) := by
  refine ⟨by rw [swp_size, h.1], fun x hx => ?_⟩
  rw [swp_get d' (by rw [h.1]; omega) (by rw [h.1]; exact hs)]
  by_cases h1 : x = k + 1
  · subst h1
    rw [if_pos rfl, h.2 k (by omega), if_neg (by omega), if_pos (by omega), if_neg (by omega), if_pos (by omega)]
    congr 1; omega
  · rw [if_neg h1]
    by_cases h2 : x = k
    · subst h2
      rw [if_pos rfl, h.2 (x + 1) hs, if_neg (by omega), if_neg (by omega), if_pos (by omega)]
      congr 1; omega
    · rw [if_neg h2, h.2 x hx]
      by_cases h3 : a ≤ x ∧ x < k
      · rw [if_pos (by omega), if_pos (by omega)]
      · rw [if_neg (by omega), if_neg (by omega), if_neg (by omega), if_neg (by omega)]
/-- One element moves down, a place a step. -/
theorem Rot.rest (m : Nat) (d : Array α) : Rot m m (m + 1) d d := ⟨rfl, fun x _ => by
  split
  · congr 1; omega
  · rw [if_neg (by omega)]⟩
theorem Rot.down {m k : Nat} {d d' : Array α} (h : Rot (k + 1) m (m + 1) d d') (hk : k < m) (hs : m < d.size) : Rot k m (m + 1) d (swp d' (k + 1) k) := by
  refine ⟨by rw [swp_size, h.1], fun x hx => ?_⟩
  rw [swp_get d' (by rw [h.1]; omega) (by rw [h.1]; omega)]
  by_cases h1 : x = k
  · subst h1
    rw [if_pos rfl, h.2 (x + 1) (by omega), if_pos (by omega), if_pos (by omega)]
    congr 1; omega
  · rw [if_neg h1]
    by_cases h2 : x = k + 1
    · subst h2
      rw [if_pos rfl, h.2 k (by omega), if_neg (by omega), if_neg (by omega), if_neg (by omega), if_pos (by omega)]
      congr 1; omega
    · rw [if_neg h2, h.2 x hx]
      by_cases h3 : k + 1 < x ∧ x < m + 1
      · rw [if_neg (by omega), if_pos (by omega), if_neg (by omega), if_pos (by omega)]
      · rw [if_neg (by omega), if_neg (by omega), if_neg (by omega), if_neg (by omega)]
/- symMerge -/
/-- What a merge comes to. -/
def Mrg (lt : α → α → Bool) (a m b : Nat) (d d' : Array (α × Nat)) : Prop := PermIn a b d d' ∧ (Tags a m b d → SortedIn (ltt lt) a m d → SortedIn (ltt lt) m b d → SortedIn (ltt lt) a b d')
theorem mrg_one (hS : SWO lt) {a b i : Nat} {d d' : Array (α × Nat)} (hb : b ≤ d.size) (h1 : a + 1 ≤ i) (h2 : i ≤ b) (hlo : i = a + 1 ∨ ltp lt d[i - 1]! d[a]! = true) (hhi : i = b ∨ ltp lt d[i]! d[a]! = false)
    (hr : Rot a (a + 1) i d d') (hT : Tags a (a + 1) b d) (hs : SortedIn (ltt lt) (a + 1) b d) : SortedIn (ltt lt) a b d' := by
  have W := ltt_swo hS
  have E : ∀ x, x < b → d'[x]! = d[if a ≤ x ∧ x < i - 1 then x + 1 else if x = i - 1 then a else x]! := fun x hx => by
    rw [hr.2 x (by omega)]
    by_cases h3 : a ≤ x ∧ x < i - 1
    · rw [if_pos (by omega), if_pos h3]; congr 1; omega
    · rw [if_neg (by omega), if_neg h3]
      by_cases h4 : x = i - 1
      · rw [if_pos (by omega), if_pos h4]; congr 1; omega
      · rw [if_neg (by omega), if_neg h4]
  have A : ∀ x, a + 1 ≤ x → x < i → ltt lt d[a]! d[x]! = false := fun x h3 h4 => by
    have h5 : ltt lt d[i - 1]! d[a]! = true := ltt_of_ltp (hlo.resolve_left (by omega))
    by_cases h6 : x = i - 1
    · rw [h6]; exact W.asymmA h5
    · exact W.ntrans _ _ _ (W.asymmA h5) (hs x (i - 1) h3 (by omega) (by omega))
  have B : ∀ x, i ≤ x → x < b → ltt lt d[x]! d[a]! = false := fun x h3 h4 => by
    have h5 : ltt lt d[i]! d[a]! = false := by rw [ltt_cross (hT a i (Nat.le_refl _) (by omega) (by omega) (by omega))]; exact hhi.resolve_left (by omega)
    by_cases h6 : x = i
    · rw [h6]; exact h5
    · exact W.ntrans _ _ _ (hs i x (by omega) (by omega) h4) h5
  intro p q hp hpq hq
  rw [E p (by omega), E q hq]
  by_cases hq1 : q < i - 1
  · rw [if_pos (by omega), if_pos (by omega)]; exact hs _ _ (by omega) (by omega) (by omega)
  · by_cases hq2 : q = i - 1
    · rw [if_neg (c := a ≤ q ∧ q < i - 1) (by omega), if_pos hq2, if_pos (by omega)]
      exact A _ (by omega) (by omega)
    · rw [if_neg (c := a ≤ q ∧ q < i - 1) (by omega), if_neg hq2]
      by_cases hp1 : p < i - 1
      · rw [if_pos (by omega)]; exact hs _ _ (by omega) (by omega) hq
      · by_cases hp2 : p = i - 1
        · rw [if_neg (by omega), if_pos hp2]; exact B _ (by omega) hq
        · rw [if_neg (by omega), if_neg hp2]; exact hs _ _ (by omega) hpq hq
theorem mrg_two (hS : SWO lt) {a m i : Nat} {d d' : Array (α × Nat)} (hb : m < d.size) (h1 : a ≤ i) (h2 : i ≤ m) (hlo : i = a ∨ ltp lt d[m]! d[i - 1]! = false) (hhi : i = m ∨ ltp lt d[m]! d[i]! = true)
    (hr : Rot i m (m + 1) d d') (hT : Tags a m (m + 1) d) (hs : SortedIn (ltt lt) a m d) : SortedIn (ltt lt) a (m + 1) d' := by
  have W := ltt_swo hS
  have E : ∀ x, x < m + 1 → d'[x]! = d[if x < i then x else if x = i then m else x - 1]! := fun x hx => by
    rw [hr.2 x (by omega)]
    by_cases h3 : x < i
    · rw [if_neg (by omega), if_neg (by omega), if_pos h3]
    · rw [if_neg h3]
      by_cases h4 : x = i
      · rw [if_pos (by omega), if_pos h4]; congr 1; omega
      · rw [if_neg (by omega), if_pos (by omega), if_neg h4]; congr 1; omega
  have A : ∀ x, a ≤ x → x < i → ltt lt d[m]! d[x]! = false := fun x h3 h4 => by
    have h5 : ltt lt d[m]! d[i - 1]! = false := by rw [ltt_cross (hT (i - 1) m (by omega) (by omega) (Nat.le_refl _) (by omega))]; exact hlo.resolve_left (by omega)
    by_cases h6 : x = i - 1
    · rw [h6]; exact h5
    · exact W.ntrans _ _ _ h5 (hs x (i - 1) h3 (by omega) (by omega))
  have B : ∀ x, i ≤ x → x < m → ltt lt d[x]! d[m]! = false := fun x h3 h4 => by
    have h5 : ltt lt d[m]! d[i]! = true := ltt_of_ltp (hhi.resolve_left (by omega))
    by_cases h6 : x = i
    · rw [h6]; exact W.asymmA h5
    · exact W.ntrans _ _ _ (hs i x (by omega) (by omega) h4) (W.asymmA h5)
  intro p q hp hpq hq
  rw [E p (by omega), E q hq]
  by_cases hq1 : q < i
  · rw [if_pos hq1, if_pos (by omega)]; exact hs _ _ hp hpq (by omega)
  · rw [if_neg hq1]
    by_cases hq2 : q = i
    · rw [if_pos hq2, if_pos (by omega)]; exact A _ hp (by omega)
    · rw [if_neg hq2]
      by_cases hp1 : p < i
      · rw [if_pos hp1]; exact hs _ _ hp (by omega) (by omega)
      · rw [if_neg hp1]
        by_cases hp2 : p = i
        · rw [if_pos hp2]; exact B _ (by omega) (by omega)
        · rw [if_neg hp2]; exact hs _ _ (by omega) (by omega) (by omega)
theorem sorted_glueN {l : α → α → Bool} {a c b : Nat} {d : Array α} (h1 : SortedIn l a c d) (h2 : SortedIn l c b d) (h3 : ∀ p q, a ≤ p → p < c → c ≤ q → q < b → l d[q]! d[p]! = false) : SortedIn l a b d := by
  intro p q hp hpq hq
  by_cases h4 : q < c
  · exact h1 p q hp hpq h4
  · by_cases h5 : p < c
    · exact h3 p q hp h5 (by omega) hq
    · exact h2 p q (by omega) hpq hq
theorem sorted_keep {l : α → α → Bool} {a b : Nat} {d d' : Array α} (h : SortedIn l a b d) (he : ∀ x, a ≤ x → x < b → d'[x]! = d[x]!) : SortedIn l a b d' := by
  intro p q hp hpq hq
  rw [he p hp (by omega), he q (by omega) hq]
  exact h p q hp hpq hq
/-- The parts once they have changed places. -/
structure Cut (lt : α → α → Bool) (a s mid e b : Nat) (d : Array (α × Nat)) : Prop where
  s1 : SortedIn (ltt lt) a s d
  s2 : SortedIn (ltt lt) s mid d
  s3 : SortedIn (ltt lt) mid e d
  s4 : SortedIn (ltt lt) e b d
  t1 : Tags a s mid d
  t2 : Tags mid e b d
  lo : ∀ p q, a ≤ p → p < mid → mid ≤ q → q < b → ltt lt d[q]! d[p]! = false
theorem Cut.of (hS : SWO lt) {a s m e b : Nat} {d d' : Array (α × Nat)} (hb : b ≤ d.size) (h1 : a ≤ s) (h2 : s ≤ m) (h3 : m ≤ e) (h4 : e ≤ b) (hx : s = a ∨ e = b ∨ ltp lt d[e]! d[s - 1]! = false) (hy : s = m ∨ e = m ∨ ltp lt d[e - 1]! d[s]! = true)
    (hr : Rot s m e d d') (hT : Tags a m b d) (hL : SortedIn (ltt lt) a m d) (hR : SortedIn (ltt lt) m b d) : Cut lt a s (s + (e - m)) e b d' := by
  have W := ltt_swo hS
  have E : ∀ x, x < b → d'[x]! = d[if x < s then x else if x < s + (e - m) then x + (m - s) else if x < e then x - (e - m) else x]! := fun x hx => by
    rw [hr.2 x (by omega)]
    by_cases g1 : x < s
    · rw [if_neg (by omega), if_neg (by omega), if_pos g1]
    · rw [if_neg g1]
      by_cases g2 : x < s + (e - m)
      · rw [if_pos (by omega), if_pos g2]
      · rw [if_neg (by omega), if_neg g2]
        by_cases g3 : x < e
        · rw [if_pos (by omega), if_pos g3]
        · rw [if_neg (by omega), if_neg g3]
  have E1 : ∀ x, x < s → d'[x]! = d[x]! := fun x hx => by rw [E x (by omega), if_pos hx]
  have E2 : ∀ x, s ≤ x → x < s + (e - m) → d'[x]! = d[x + (m - s)]! := fun x g1 g2 => by rw [E x (by omega), if_neg (by omega), if_pos g2]
  have E3 : ∀ x, s + (e - m) ≤ x → x < e → d'[x]! = d[x - (e - m)]! := fun x g1 g2 => by rw [E x (by omega), if_neg (by omega), if_neg (by omega), if_pos g2]
  have E4 : ∀ x, e ≤ x → x < b → d'[x]! = d[x]! := fun x g1 g2 => by rw [E x g2, if_neg (by omega), if_neg (by omega), if_neg (by omega)]
  have X : ∀ p q, a ≤ p → p < s → e ≤ q → q < b → ltt lt d[q]! d[p]! = false := fun p q g1 g2 g3 g4 => by
    have g5 : ltt lt d[e]! d[s - 1]! = false := by
      rw [ltt_cross (hT (s - 1) e (by omega) (by omega) h3 (by omega))]
      exact (hx.resolve_left (by omega)).resolve_left (by omega)
    have g6 : ltt lt d[q]! d[s - 1]! = false := by
      by_cases g7 : q = e
      · rw [g7]; exact g5
      · exact W.ntrans _ _ _ (hR e q h3 (by omega) g4) g5
    by_cases g7 : p = s - 1
    · rw [g7]; exact g6
    · exact W.ntrans _ _ _ g6 (hL p (s - 1) g1 (by omega) (by omega))
  have Y : ∀ p q, m ≤ p → p < e → s ≤ q → q < m → ltt lt d[q]! d[p]! = false := fun p q g1 g2 g3 g4 => by
    have g5 : ltt lt d[s]! d[e - 1]! = false := W.asymmA (ltt_of_ltp ((hy.resolve_left (by omega)).resolve_left (by omega)))
    have g6 : ltt lt d[q]! d[e - 1]! = false := by
      by_cases g7 : q = s
      · rw [g7]; exact g5
      · exact W.ntrans _ _ _ (hL s q (by omega) (by omega) g4) g5
    by_cases g7 : p = e - 1
    · rw [g7]; exact g6
    · exact W.ntrans _ _ _ g6 (hR p (e - 1) g1 (by omega) (by omega))
  refine ⟨fun p q g1 g2 g3 => ?_, fun p q g1 g2 g3 => ?_, fun p q g1 g2 g3 => ?_, fun p q g1 g2 g3 => ?_, fun p q g1 g2 g3 g4 => ?_, fun p q g1 g2 g3 g4 => ?_, fun p q g1 g2 g3 g4 => ?_⟩
  · rw [E1 p (by omega), E1 q g3]; exact hL p q g1 g2 (by omega)
  · rw [E2 p g1 (by omega), E2 q (by omega) g3]; exact hR _ _ (by omega) (by omega) (by omega)
  · rw [E3 p g1 (by omega), E3 q (by omega) g3]; exact hL _ _ (by omega) (by omega) (by omega)
  · rw [E4 p g1 (by omega), E4 q (by omega) g3]; exact hR _ _ (by omega) (by omega) (by omega)
  · rw [E1 p g2, E2 q g3 g4]; exact hT _ _ g1 (by omega) (by omega) (by omega)
  · rw [E3 p g1 g2, E4 q g3 g4]; exact hT _ _ (by omega) (by omega) (by omega) g4
  · by_cases k1 : p < s
    · rw [E1 p k1]
      by_cases k2 : q < e
      · rw [E3 q g3 k2]; exact hL _ _ g1 (by omega) (by omega)
      · rw [E4 q (by omega) g4]; exact X _ _ g1 k1 (by omega) g4
    · rw [E2 p (by omega) g2]
      by_cases k2 : q < e
      · rw [E3 q g3 k2]; exact Y _ _ (by omega) (by omega) (by omega) (by omega)
      · rw [E4 q (by omega) g4]; exact hR _ _ (by omega) (by omega) g4
/-- Both halves are merged in their turn. -/
theorem Cut.done {a s mid e b : Nat} {d d2 d3 : Array (α × Nat)} (h1 : a ≤ s) (h2 : s ≤ mid) (h3 : mid ≤ e) (h4 : e ≤ b) (hb : b ≤ d.size) (C : Cut lt a s mid e b d)
    (g1 : Mrg lt a s mid d d2 ∨ (d2 = d ∧ (s = a ∨ s = mid))) (g2 : Mrg lt mid e b d2 d3 ∨ (d3 = d2 ∧ (e = mid ∨ e = b))) : SortedIn (ltt lt) a b d3 := by
  have p1 : PermIn a mid d d2 := by
    rcases g1 with g | ⟨rfl, _⟩
    · exact g.1
    · exact permIn_refl _ _ _
  have p2 : PermIn mid b d2 d3 := by
    rcases g2 with g | ⟨rfl, _⟩
    · exact g.1
    · exact permIn_refl _ _ _
  have k1 : SortedIn (ltt lt) a mid d2 := by
    rcases g1 with g | ⟨rfl, rfl | rfl⟩
    · exact g.2 C.t1 C.s1 C.s2
    · exact C.s2
    · exact C.s1
  have E2 : ∀ x, mid ≤ x → d2[x]! = d[x]! := fun x hx => p1.2.1 x (.inr hx)
  have k2 : SortedIn (ltt lt) mid b d3 := by
    have t2 : Tags mid e b d2 := fun p q a1 a2 a3 a4 => by rw [E2 p a1, E2 q (by omega)]; exact C.t2 p q a1 a2 a3 a4
    have s3 : SortedIn (ltt lt) mid e d2 := sorted_keep C.s3 fun x hx _ => E2 x hx
    have s4 : SortedIn (ltt lt) e b d2 := sorted_keep C.s4 fun x hx _ => E2 x (by omega)
    rcases g2 with g | ⟨rfl, rfl | rfl⟩
    · exact g.2 t2 s3 s4
    · exact s4
    · exact s3
  have E3 : ∀ x, x < mid → d3[x]! = d2[x]! := fun x hx => p2.2.1 x (.inl hx)
  refine sorted_glueN (sorted_keep k1 fun x _ hx => E3 x hx) k2 fun p q a1 a2 a3 a4 => ?_
  rw [E3 p a2]
  have f1 : ∀ p, a ≤ p → p < mid → ∀ q, mid ≤ q → q < b → ltt lt d2[q]! d2[p]! = false := fun p a1 a2 q a3 a4 => by
    rw [E2 q a3]
    exact permIn_all d d2 a mid (fun y => ltt lt d[q]! y = false) (by omega) p1 (fun x b1 b2 => C.lo x q b1 b2 a3 a4) p a1 a2
  exact permIn_all d2 d3 mid b (fun y => ltt lt y d2[p]! = false) (by rw [p1.1]; exact hb) p2 (fun x b1 b2 => f1 p a1 a2 x b1 b2) q a3 a4
theorem Rot.perm {lo m hi : Nat} {d d' : Array α} (h : Rot lo m hi d d') (h1 : lo ≤ m) (h2 : m ≤ hi) (h3 : hi ≤ d.size) : PermIn lo hi d d' := by
  refine ⟨h.1, fun x hx => ?_, ?_⟩
  · by_cases hs : x < d.size
    · rw [h.2 x hs, if_neg (by omega), if_neg (by omega)]
    · rw [getElem!_neg d' x (by rw [h.1]; exact hs), getElem!_neg d x hs]
  · have e : (d'.extract lo hi).toList = (d.extract m hi).toList ++ (d.extract lo m).toList := by
      apply List.ext_getElem
      · simp only [Array.length_toList, List.length_append, Array.size_extract, h.1]; omega
      · intro i g1 _
        simp only [Array.length_toList, Array.size_extract, h.1] at g1
        have e1 : ((d'.extract lo hi).toList)[i]'(by simp only [Array.length_toList, Array.size_extract, h.1]; omega) = d'[lo + i]! := by
          rw [Array.getElem_toList, Array.getElem_extract, getElem!_pos _ _ (by rw [h.1]; omega)]
        rw [e1, h.2 (lo + i) (by omega)]
        by_cases hi1 : i < hi - m
        · rw [if_pos (by omega), List.getElem_append_left (by simp only [Array.length_toList, Array.size_extract]; omega), Array.getElem_toList, Array.getElem_extract, getElem!_pos _ _ (by omega)]
          congr 1; omega
        · rw [if_neg (by omega), if_pos (by omega), List.getElem_append_right (by simp only [Array.length_toList, Array.size_extract]; omega), Array.getElem_toList, Array.getElem_extract, getElem!_pos _ _ (by omega)]
          congr 1
          simp only [Array.length_toList, Array.size_extract]; omega
    have e2 : (d.extract lo hi).toList = (d.extract lo m).toList ++ (d.extract m hi).toList := by
      simp only [Array.toList_extract, List.extract_eq_take_drop]
      rw [show (List.drop lo d.toList).take (hi - lo) = (List.drop lo d.toList).take ((m - lo) + (hi - m)) by congr 1; omega, List.take_add, List.drop_drop]
      congr 3; omega
    rw [e, e2]
    exact List.perm_append_comm
/- stableCmpFunc -/
/-- From lo on, a part of a length is sorted and holds what stood there. -/
def Blk (lt : α → α → Bool) (lo len n : Nat) (d : Array (α × Nat)) : Prop := (∀ p q, lo ≤ p → p < q → q < lo + len → q < n → ltt lt d[q]! d[p]! = false) ∧ (∀ p, lo ≤ p → p < lo + len → p < n → lo ≤ d[p]!.2 ∧ d[p]!.2 < lo + len)
theorem Blk.keep {lo len n : Nat} {d d' : Array (α × Nat)} (h : Blk lt lo len n d) (he : ∀ x, lo ≤ x → x < lo + len → x < n → d'[x]! = d[x]!) : Blk lt lo len n d' :=
  ⟨fun p q h1 h2 h3 h4 => by rw [he p h1 (by omega) (by omega), he q (by omega) h3 h4]; exact h.1 p q h1 h2 h3 h4, fun p h1 h2 h3 => by rw [he p h1 h2 h3]; exact h.2 p h1 h2 h3⟩
theorem Blk.merge {a bs e n : Nat} {d d' : Array (α × Nat)} (hn : n ≤ d.size) (he : e ≤ n) (h1 : a + bs < e) (h2 : e ≤ a + 2 * bs) (h3 : e = n ∨ e = a + 2 * bs) (L : Blk lt a bs n d) (R : Blk lt (a + bs) bs n d) (M : Mrg lt a (a + bs) e d d') : Blk lt a (2 * bs) n d' := by
  have hs := M.2 (fun i j g1 g2 g3 g4 => by have k1 := L.2 i g1 g2 (by omega); have k2 := R.2 j g3 (by omega) (by omega); omega) (fun p q g1 g2 g3 => L.1 p q g1 g2 g3 (by omega)) (fun p q g1 g2 g3 => R.1 p q g1 g2 (by omega) (by omega))
  refine ⟨fun p q g1 g2 g3 g4 => hs p q g1 g2 (by omega), fun p g1 g2 g3 => ?_⟩
  refine permIn_all d d' a e (fun x => a ≤ x.2 ∧ x.2 < a + 2 * bs) (by omega) M.1 (fun i k1 k2 => ?_) p g1 (by omega)
  by_cases k3 : i < a + bs
  · have := L.2 i k1 k3 (by omega); omega
  · have := R.2 i (by omega) (by omega) (by omega); omega
theorem Blk.last {a bs n : Nat} {d : Array (α × Nat)} (h : n ≤ a + bs) (L : Blk lt a bs n d) : Blk lt a (2 * bs) n d :=
  ⟨fun p q h1 h2 _ h4 => L.1 p q h1 h2 (by omega) h4, fun p h1 _ h3 => by have := L.2 p h1 (by omega) h3; omega⟩
end Go.Proofs.Ytikmffdmgnjpbaa
/- The walks of slices.swapRangeCmpFunc and rotateCmpFunc over numbers. -/
namespace Go.Proofs.Ytikmffdmgnjpbaa
open Go.Shelf Go.RowKit Go.Lib Go.Sort
variable {P : Program} {α : Type} [Inhabited α]
/-- What the walks of a stable sort ask of a program: its bodies, its types; an element has k cells. -/
structure StPI (P : Program) : Prop where
  mixed : P.follows .mixedOrders = true
  fStable : P.funcs[41]? = some Try.f41
  fIns : P.funcs[50]? = some Try.f50
  fSym : P.funcs[51]? = some Try.f51
  fRot : P.funcs[58]? = some Try.f58
  fSwr : P.funcs[59]? = some Try.f59
  t0 : P.underlying 0 = some (TypeDesc.tuple #[])
  a0 : ∀ w, (isAgg 0).run P w = .ok false w
  z0 : ∀ w, (Go.sizeOf 0).run P w = .ok 1 w
  v0 : ∀ w, (zeroValue 0).run P w = .ok (Value.tuple #[]) w
  t3 : P.underlying 3 = some (TypeDesc.int IntKind.i64)
  a3 : ∀ w, (isAgg 3).run P w = .ok false w
  z3 : ∀ w, (Go.sizeOf 3).run P w = .ok 1 w
  v3 : ∀ w, (zeroValue 3).run P w = .ok (Value.int IntKind.i64 0) w
  t4 : P.underlying 4 = some (TypeDesc.bool)
  a4 : ∀ w, (isAgg 4).run P w = .ok false w
  z4 : ∀ w, (Go.sizeOf 4).run P w = .ok 1 w
  v4 : ∀ w, (zeroValue 4).run P w = .ok (Value.bool false) w
  t22 : P.underlying 22 = some (TypeDesc.slice 3)
  a22 : ∀ w, (isAgg 22).run P w = .ok false w
  z22 : ∀ w, (Go.sizeOf 22).run P w = .ok 1 w
  v22 : ∀ w, (zeroValue 22).run P w = .ok (Value.slice none 0 0) w
  t25 : P.underlying 34 = some (TypeDesc.func #[3, 3] #[3] false)
  a25 : ∀ w, (isAgg 34).run P w = .ok false w
  z25 : ∀ w, (Go.sizeOf 34).run P w = .ok 1 w
  v25 : ∀ w, (zeroValue 34).run P w = .ok (Value.nilFunc) w
  t39 : P.underlying 63 = some (TypeDesc.int IntKind.u64)
  a39 : ∀ w, (isAgg 63).run P w = .ok false w
  z39 : ∀ w, (Go.sizeOf 63).run P w = .ok 1 w
  v39 : ∀ w, (zeroValue 63).run P w = .ok (Value.int IntKind.u64 0) w
set_option maxHeartbeats 4000000 in
set_option maxRecDepth 1000000 in
theorem swapRange_sti (L : StPI P) (enc : α → Value) (g : Nat) (cb : Array Value) (blk off cap a b n : Nat) (d0 d : Array α) (w0 w : World)
    (R : Row1 enc w0 blk off d0) (hs : d0.size = d.size) (S : SW enc w0 blk off d w) (hab : a + n ≤ b) (hb : b + n ≤ d.size) (hsz : d.size ≤ 1000000) :
    Calls P 59 #[.slice (some ⟨blk, off, none⟩) d.size cap, .int .i64 a, .int .i64 b, .int .i64 n, .func (.func g) #[] cb] w fun e w' => e = .returned (.tuple #[]) ∧ ∃ d', Swr a b n d d' ∧ PermIn a (b + n) d d' ∧ SW enc w0 blk off d' w' := by
  have S0 : Aside (SW enc w0 blk off d w) := S
  clear S
  have mixed := L.mixed; have t0 := L.t0; have a0 := L.a0; have z0 := L.z0; have v0 := L.v0; have t3 := L.t3; have a3 := L.a3; have z3 := L.z3; have v3 := L.v3; have t4 := L.t4; have a4 := L.a4; have z4 := L.z4; have v4 := L.v4; have t22 := L.t22; have a22 := L.a22; have z22 := L.z22; have v22 := L.v22; have t25 := L.t25; have a25 := L.a25; have z25 := L.z25; have v25 := L.v25; have t39 := L.t39; have a39 := L.a39; have z39 := L.z39; have v39 := L.v39
  have u22 := run_underlying L.t22
  have hcl0 := R.hO.cells
  simp only [Value.cells] at hcl0
  have hst := R.hO.store P
  have FG := L.fSwr
  clear L
  go_enter FG, Try.ntmps59
  go_wp2
  go_loopg [10] n (fun kx s10 wr => ∃ (i : Nat) (dk : Array α), s10 = .int .i64 i ∧ i ≤ n ∧ n - i ≤ kx ∧ dk.size = d.size ∧ Aside (SW enc w0 blk off dk wr) ∧ Aside (Swr a b i d dk ∧ PermIn a (b + n) d dk))
  case atStart => exact ⟨0, d, rfl, by omega, by omega, rfl, S0, Swr.zero a b d, permIn_refl _ _ _⟩
  case round =>
    clear S0
    obtain ⟨i, dk, rfl, hin, hkx, hds, S1, Q1⟩ := hrel
    by_cases hlt : i < n
    · have hltz : (i : Int) < (n : Int) := by omega
      go_wp2_with fail
      obtain ⟨i44, hi44⟩ : ∃ q, q = a + i := ⟨_, rfl⟩
      obtain ⟨j44, hj44⟩ : ∃ q, q = b + i := ⟨_, rfl⟩
      have ea44 : ((a : Int) + (i : Int)).toNat = i44 := by omega
      have pa44 : (0 : Int) ≤ (a : Int) + (i : Int) := by omega
      have ba44 : (a : Int) + (i : Int) < (d.size : Int) := by omega
      have ra44 : IntKind.i64.wrap ((a : Int) + (i : Int)) = (a : Int) + (i : Int) := by rw [IntKind.wrap_i64]; omega
      have ec44 : ((b : Int) + (i : Int)).toNat = j44 := by omega
      have pc44 : (0 : Int) ≤ (b : Int) + (i : Int) := by omega
      have bc44 : (b : Int) + (i : Int) < (d.size : Int) := by omega
      have rc44 : IntKind.i64.wrap ((b : Int) + (i : Int)) = (b : Int) + (i : Int) := by rw [IntKind.wrap_i64]; omega
      obtain ⟨x44, hx44⟩ : ∃ x, x = dk[a + i]! := ⟨_, rfl⟩
      obtain ⟨y44, hy44⟩ : ∃ x, x = dk[b + i]! := ⟨_, rfl⟩
      have S2 : Aside (SW enc w0 blk off (swp dk (a + i) (b + i)) ((wr.setCell ⟨blk, off + i44, none⟩ (enc y44)).setCell ⟨blk, off + j44, none⟩ (enc x44)).drew) := by rw [hi44, hj44, hx44, hy44]; exact S1.out.swapped R (a + i) (b + i) (by omega) (by omega)
      have c44a := S1.out.c1 R (by omega) (a + i) (by omega)
      have c44b := S1.out.c1 R (by omega) (b + i) (by omega)
      have f44a := S1.out.f1 R (by omega) (a + i) (by omega)
      have f44b := S1.out.f1 R (by omega) (b + i) (by omega)
      obtain ⟨u44, c44c⟩ := S1.out.c2 R (by omega) (a + i) (b + i) (by omega) (by omega) (enc y44)
      rw [← hj44, ← hi44] at c44c
      rw [← hx44, ← hi44] at c44a
      rw [← hy44, ← hj44] at c44b
      rw [← hi44] at f44a
      rw [← hj44] at f44b
      clear S1 hx44 hy44 hi44 hj44
      go_wp2_with fail
      go_big_region_o
      clear c44a c44b c44c f44a f44b
      generalize ((wr.setCell ⟨blk, off + i44, none⟩ (enc y44)).setCell ⟨blk, off + j44, none⟩ (enc x44)).drew = w2 at S2 ⊢
      clear ea44 ec44
      go_wp2
      go_roundg (n - (i + 1))
      case measure => omega
      case rel => exact ⟨i + 1, swp dk (a + i) (b + i), by go_num, by omega, Nat.le_refl _, by rw [size_swp]; exact hds, S2, Q1.out.1.step (by omega) (by omega), permIn_trans _ _ _ _ _ Q1.out.2 (swp_permIn dk a (b + n) (a + i) (b + i) (by omega) (by omega) (by omega) (by omega) (by omega))⟩
    · obtain rfl : i = n := by omega
      go_wp2
      go_end0
      exact ⟨rfl, dk, Q1.out.1, Q1.out.2, S1.out⟩
end Go.Proofs.Ytikmffdmgnjpbaa
/- The walk of slices.rotateCmpFunc over numbers. -/
namespace Go.Proofs.Ytikmffdmgnjpbaa
open Go.Shelf Go.RowKit Go.Lib Go.Sort
variable {P : Program} {α : Type} [Inhabited α]
set_option maxHeartbeats 4000000 in
set_option maxRecDepth 1000000 in
theorem rotate_sti (L : StPI P) (enc : α → Value) (g : Nat) (cb : Array Value) (blk off cap a m b : Nat) (d0 d : Array α) (w0 w : World)
    (R : Row1 enc w0 blk off d0) (hs : d0.size = d.size) (S : SW enc w0 blk off d w) (ham : a < m) (hmb : m < b) (hb : b ≤ d.size) (hsz : d.size ≤ 1000000) :
    Calls P 58 #[.slice (some ⟨blk, off, none⟩) d.size cap, .int .i64 a, .int .i64 m, .int .i64 b, .func (.func g) #[] cb] w fun e w' => e = .returned (.tuple #[]) ∧ ∃ d', Rot a m b d d' ∧ SW enc w0 blk off d' w' := by
  have S0 : Aside (SW enc w0 blk off d w) := S
  have SWR : Aside (∀ (dk : Array α) (wr : World) (x y n : Nat), dk.size = d.size → SW enc w0 blk off dk wr → x + n ≤ y → y + n ≤ d.size →
      Calls P 59 #[.slice (some ⟨blk, off, none⟩) d.size cap, .int .i64 x, .int .i64 y, .int .i64 n, .func (.func g) #[] cb] wr fun e w' => e = .returned (.tuple #[]) ∧ ∃ d', Swr x y n dk d' ∧ PermIn x (y + n) dk d' ∧ SW enc w0 blk off d' w') := fun dk wr x y n h1 h2 h3 h4 => by
    have h := swapRange_sti L enc g cb blk off cap x y n d0 dk w0 wr R (hs.trans h1.symm) h2 h3 (by rw [h1]; exact h4) (by rw [h1]; exact hsz)
    rw [h1] at h
    exact h
  clear S R hs
  have mixed := L.mixed; have t0 := L.t0; have a0 := L.a0; have z0 := L.z0; have v0 := L.v0; have t3 := L.t3; have a3 := L.a3; have z3 := L.z3; have v3 := L.v3; have t4 := L.t4; have a4 := L.a4; have z4 := L.z4; have v4 := L.v4; have t22 := L.t22; have a22 := L.a22; have z22 := L.z22; have v22 := L.v22; have t25 := L.t25; have a25 := L.a25; have z25 := L.z25; have v25 := L.v25; have t39 := L.t39; have a39 := L.a39; have z39 := L.z39; have v39 := L.v39
  have FG := L.fRot
  have eg : ∀ args w, (callFunc 59 args).run P w = .ok (.enter 59 args) w := enters_of L.fSwr (by kernel_rfl) rfl
  clear L
  have ei0 : IntKind.i64.wrap ((m : Int) - (a : Int)) = ((m - a : Nat) : Int) := by rw [IntKind.wrap_i64]; omega
  have ej0 : IntKind.i64.wrap ((b : Int) - (m : Int)) = ((b - m : Nat) : Int) := by rw [IntKind.wrap_i64]; omega
  obtain ⟨i0, hi0⟩ : ∃ i, i = m - a := ⟨_, rfl⟩
  obtain ⟨j0, hj0⟩ : ∃ j, j = b - m := ⟨_, rfl⟩
  rw [← hi0] at ei0
  rw [← hj0] at ej0
  have HI0 : Aside (i0 = m - a ∧ j0 = b - m) := ⟨hi0, hj0⟩
  clear hi0 hj0
  go_enter FG, Try.ntmps58
  go_wp2
  clear ei0 ej0
  go_loopg [10, 11] (m + b) (fun kx s10 s11 wr => ∃ (i j : Nat) (dk : Array α), s10 = .int .i64 i ∧ s11 = .int .i64 j ∧ 0 < i ∧ 0 < j ∧ i ≤ m ∧ m + j ≤ d.size ∧ i + j ≤ kx ∧ dk.size = d.size ∧ Aside (SW enc w0 blk off dk wr) ∧ Aside (∀ d', Rot (m - i) m (m + j) dk d' → Rot a m b d d'))
  case atStart => exact ⟨i0, j0, d, rfl, rfl, by have := HI0.out; omega, by have := HI0.out; omega, by have := HI0.out; omega, by have := HI0.out; omega, by have := HI0.out; omega, rfl, S0, fun d' h => by
    have h1 := HI0.out
    rw [show m - i0 = a by omega, show m + j0 = b by omega] at h
    exact h⟩
  case round =>
    clear S0
    obtain ⟨i, j, dk, rfl, rfl, hi, hj, him, hjb, hkx, hds, S1, Q1⟩ := hrel
    by_cases hne : i = j
    · subst hne
      have e1 : IntKind.i64.wrap ((m : Int) - (i : Int)) = ((m - i : Nat) : Int) := by rw [IntKind.wrap_i64]; omega
      go_wp2_with fail
      refine (SWR.out dk wr (m - i) m i hds S1.out (by omega) hjb).mono ?_
      rintro e w1 ⟨rfl, d', hq, -, hS⟩
      have HS := Lib.hid hS
      have HQ := Lib.hid (Q1.out d' (Rot.of_swr him hq))
      clear hq hS S1 Q1 e1
      go_wp2
      go_end0
      exact ⟨rfl, d', HQ.out, HS.out⟩
    · have hnz : (i : Int) ≠ (j : Int) := by omega
      by_cases hlt : j < i
      · have hlz : (j : Int) < (i : Int) := by omega
        have e1 : IntKind.i64.wrap ((m : Int) - (i : Int)) = ((m - i : Nat) : Int) := by rw [IntKind.wrap_i64]; omega
        have e2 : IntKind.i64.wrap ((i : Int) - (j : Int)) = ((i - j : Nat) : Int) := by rw [IntKind.wrap_i64]; omega
        go_wp2_with fail
        refine (SWR.out dk wr (m - i) m j hds S1.out (by omega) hjb).mono ?_
        rintro e w1 ⟨rfl, d', hq, -, hS⟩
        have HS := Lib.hid hS
        have HQ := Lib.hid hq
        clear hq hS S1 e1
        go_wp2
        go_roundg (i - j + j)
        case measure => omega
        case rel => exact ⟨i - j, j, d', rfl, rfl, by omega, hj, by omega, hjb, Nat.le_refl _, HQ.out.1.trans hds, HS.out, fun d2 h => Q1.out d2 (Rot.left him hlt (by omega) HQ.out h)⟩
      · have hlz : ¬ (j : Int) < (i : Int) := by omega
        have e1 : IntKind.i64.wrap ((m : Int) - (i : Int)) = ((m - i : Nat) : Int) := by rw [IntKind.wrap_i64]; omega
        have e2 : IntKind.i64.wrap ((j : Int) - (i : Int)) = ((j - i : Nat) : Int) := by rw [IntKind.wrap_i64]; omega
        have e3 : IntKind.i64.wrap ((m : Int) + (j : Int)) = (m : Int) + (j : Int) := by rw [IntKind.wrap_i64]; omega
        have e4 : IntKind.i64.wrap ((m : Int) + (j : Int) - (i : Int)) = ((m + j - i : Nat) : Int) := by rw [IntKind.wrap_i64]; omega
        go_wp2_with fail
        refine (SWR.out dk wr (m - i) (m + j - i) i hds S1.out (by omega) (by omega)).mono ?_
        rintro e w1 ⟨rfl, d', hq, -, hS⟩
        have HS := Lib.hid hS
        have HQ := Lib.hid hq
        clear hq hS S1 e1 e3 e4
        go_wp2
        go_roundg (i + (j - i))
        case measure => omega
        case rel => exact ⟨i, j - i, d', rfl, rfl, hi, by omega, him, by omega, Nat.le_refl _, HQ.out.1.trans hds, HS.out, fun d2 h => Q1.out d2 (Rot.right him (by omega) (by omega) HQ.out h)⟩
end Go.Proofs.Ytikmffdmgnjpbaa
/- slices.symMergeCmpFunc over numbers where the first part has one element. -/
namespace Go.Proofs.Ytikmffdmgnjpbaa
open Go.Shelf Go.RowKit Go.Lib Go.Sort
variable {P : Program} {α : Type} [Inhabited α]
set_option maxHeartbeats 8000000 in
set_option maxRecDepth 1000000 in
theorem sym_one_i (L : StPI P) (enc : α × Nat → Value) (cf : α → α → Int) (lt : α → α → Bool) (hlt : ∀ x y, lt x y = decide (cf x y < 0)) (g : Nat) (cb : Array Value) (blk off cap a m b : Nat) (d0 d : Array (α × Nat)) (w0 w : World)
    (eg : ∀ args w, (callFunc g args).run P w = .ok (.enter g args) w) (hcmp : CmpLays1 P g cb enc (fun x y => cf x.1 y.1) blk off d0.size w0) (hS : SWO lt)
    (R : Row1 enc w0 blk off d0) (hs : d0.size = d.size) (S : SW enc w0 blk off d w) (hm : m = a + 1) (ham : a < m) (hmb : m < b) (hb : b ≤ d.size) (hsz : d.size ≤ 1000000) :
    Calls P 51 #[.slice (some ⟨blk, off, none⟩) d.size cap, .int .i64 a, .int .i64 m, .int .i64 b, .func (.func g) #[] cb] w fun e w' => e = .returned (.tuple #[]) ∧ ∃ d', Mrg lt a m b d d' ∧ SW enc w0 blk off d' w' := by
  have S0 : Aside (SW enc w0 blk off d w) := S
  have HC : Aside _ := hcmp
  have HLT : Aside (∀ x y, lt x y = decide (cf x y < 0)) := hlt
  clear S hcmp hlt
  have mixed := L.mixed; have t0 := L.t0; have a0 := L.a0; have z0 := L.z0; have v0 := L.v0; have t3 := L.t3; have a3 := L.a3; have z3 := L.z3; have v3 := L.v3; have t4 := L.t4; have a4 := L.a4; have z4 := L.z4; have v4 := L.v4; have t22 := L.t22; have a22 := L.a22; have z22 := L.z22; have v22 := L.v22; have t25 := L.t25; have a25 := L.a25; have z25 := L.z25; have v25 := L.v25; have t39 := L.t39; have a39 := L.a39; have z39 := L.z39; have v39 := L.v39
  have u22 := run_underlying L.t22
  have hcl0 := R.hO.cells
  simp only [Value.cells] at hcl0
  have hst := R.hO.store P
  have FG := L.fSym
  clear L
  have e0 : IntKind.i64.wrap ((m : Int) - (a : Int)) = 1 := by rw [IntKind.wrap_i64]; omega
  have HM : Hid (m = a + 1) := hm
  clear hm
  go_enter FG, Try.ntmps51
  go_wp2
  clear e0
  go_loopg [10, 11] (b - m) (fun kx vi vj wr => ∃ i j : Nat, vi = .int .i64 i ∧ vj = .int .i64 j ∧ m ≤ i ∧ i ≤ j ∧ j ≤ b ∧ j - i ≤ kx ∧ Aside (SW enc w0 blk off d wr) ∧ Aside ((i = m ∨ ltp lt d[i - 1]! d[a]! = true) ∧ (j = b ∨ ltp lt d[j]! d[a]! = false)))
  case atStart => exact ⟨m, b, rfl, rfl, Nat.le_refl _, by omega, Nat.le_refl _, Nat.le_refl _, S0, .inl rfl, .inl rfl⟩
  case round =>
    clear S0
    obtain ⟨i, j, rfl, rfl, hmi, hij, hjb, hkx, S1, Q1⟩ := hrel
    by_cases hl : i < j
    · obtain ⟨h, hh⟩ : ∃ h, h = (i + j) / 2 := ⟨_, rfl⟩
      have eh : ((i : Int) + (j : Int)) / 2 = (h : Int) := by omega
      have hh1 : i ≤ h := by omega
      have hh2 : h < j := by omega
      clear hh
      have ea1 : ((h : Int)).toNat = h := by omega
      have pa1 : (0 : Int) ≤ (h : Int) := by omega
      have ba1 : (h : Int) < (d.size : Int) := by omega
      have ra1 : IntKind.i64.wrap ((h : Int)) = (h : Int) := by rw [IntKind.wrap_i64]; omega
      have ea2 : ((a : Int)).toNat = a := by omega
      have pa2 : (0 : Int) ≤ (a : Int) := by omega
      have ba2 : (a : Int) < (d.size : Int) := by omega
      have ra2 : IntKind.i64.wrap ((a : Int)) = (a : Int) := by rw [IntKind.wrap_i64]; omega
      by_cases hlv : cf d[h]!.1 d[a]!.1 < 0
      · obtain ⟨x3, hx3⟩ : ∃ x, x = d[h]! := ⟨_, rfl⟩
        obtain ⟨y3, hy3⟩ : ∃ x, x = d[a]! := ⟨_, rfl⟩
        have l3a := S1.out.cl R (by omega) (h) (by omega)
        have l3b := S1.out.cl R (by omega) (a) (by omega)
        rw [← hx3] at l3a
        rw [← hy3] at l3b
        have hc3 := S1.out.cmp HC.out (by omega) x3 y3
        have hv3 : cf x3.1 y3.1 < 0 := by rw [hx3, hy3]; exact hlv
        have hd3 : decide (cf x3.1 y3.1 < 0) = true := decide_eq_true hv3
        have HLV := Lib.hid hlv
        clear hx3 hy3 hlv
        go_wp2_with fail
        go_quiet_grown (first | (go_at_fn g; refine Calls.grown_of (hc3 _ _)))
        have SU : Aside (SW enc w0 blk off d (grow (wr.drewN nq) osq)) := S1.out.grown nq osq
        clear l3a l3b hc3 S1
        generalize grow (wr.drewN nq) osq = wu at SU ⊢
        clear nq osq
        go_wp2
        go_roundg (j - (h + 1))
        case measure => omega
        case rel => exact ⟨h + 1, j, by go_num, by go_num, by omega, by omega, hjb, Nat.le_refl _, SU, .inr (by unfold ltp; rw [HLT.out]; exact decide_eq_true HLV.out), Q1.out.2⟩
      · obtain ⟨x3, hx3⟩ : ∃ x, x = d[h]! := ⟨_, rfl⟩
        obtain ⟨y3, hy3⟩ : ∃ x, x = d[a]! := ⟨_, rfl⟩
        have l3a := S1.out.cl R (by omega) (h) (by omega)
        have l3b := S1.out.cl R (by omega) (a) (by omega)
        rw [← hx3] at l3a
        rw [← hy3] at l3b
        have hc3 := S1.out.cmp HC.out (by omega) x3 y3
        have hv3 : ¬ cf x3.1 y3.1 < 0 := by rw [hx3, hy3]; exact hlv
        have hd3 : decide (cf x3.1 y3.1 < 0) = false := decide_eq_false hv3
        have HLV := Lib.hid hlv
        clear hx3 hy3 hlv
        go_wp2_with fail
        go_quiet_grown (first | (go_at_fn g; refine Calls.grown_of (hc3 _ _)))
        have SU : Aside (SW enc w0 blk off d (grow (wr.drewN nq) osq)) := S1.out.grown nq osq
        clear l3a l3b hc3 S1
        generalize grow (wr.drewN nq) osq = wu at SU ⊢
        clear nq osq
        go_wp2
        go_roundg (h - i)
        case measure => omega
        case rel => exact ⟨i, h, by go_num, by go_num, hmi, by omega, by omega, Nat.le_refl _, SU, Q1.out.1, .inr (by unfold ltp; rw [HLT.out]; exact decide_eq_false (by have := HLV.out; omega))⟩
    · have hi2 : i = j := by omega
      subst hi2
      obtain ⟨ip, hip⟩ : ∃ ip, i = ip + 1 := ⟨i - 1, by omega⟩
      have e5 : IntKind.i64.wrap ((i : Int) - 1) = (ip : Int) := by rw [IntKind.wrap_i64]; omega
      have HIP : Aside (i = ip + 1) := hip
      clear hip
      have HB : Aside (m ≤ i ∧ i ≤ b) := ⟨hmi, hjb⟩
      clear hkx hmi hij hjb
      go_wp2
      go_loopg [13] (ip - a) (fun kx vk wr => ∃ (q : Nat) (dk : Array (α × Nat)), vk = .int .i64 q ∧ a ≤ q ∧ q ≤ ip ∧ ip - q ≤ kx ∧ dk.size = d.size ∧ Aside (SW enc w0 blk off dk wr) ∧ Aside (Rot a (a + 1) (q + 1) d dk))
      case atStart => exact ⟨a, d, rfl, Nat.le_refl _, by have := HIP.out; have := HB.out; have := HM.out; omega, Nat.le_refl _, rfl, S1, Rot.start a d⟩
      case round =>
        clear S1
        obtain ⟨q, dk, rfl, haq, hqi, hkx, hds, S1, Q2⟩ := hrel
        by_cases hl : q < ip
        · have hlz : (q : Int) < (ip : Int) := by omega
          have hqs : q + 1 < d.size := by have := HIP.out; have := HB.out; omega
          obtain ⟨i4, hi4⟩ : ∃ qq, qq = q := ⟨_, rfl⟩
          obtain ⟨j4, hj4⟩ : ∃ qq, qq = q + 1 := ⟨_, rfl⟩
          have ea4 : ((q : Int)).toNat = i4 := by omega
          have pa4 : (0 : Int) ≤ (q : Int) := by omega
          have ba4 : (q : Int) < (d.size : Int) := by omega
          have ra4 : IntKind.i64.wrap ((q : Int)) = (q : Int) := by rw [IntKind.wrap_i64]; omega
          have ec4 : ((q : Int) + 1).toNat = j4 := by omega
          have pc4 : (0 : Int) ≤ (q : Int) + 1 := by omega
          have bc4 : (q : Int) + 1 < (d.size : Int) := by omega
          have rc4 : IntKind.i64.wrap ((q : Int) + 1) = (q : Int) + 1 := by rw [IntKind.wrap_i64]; omega
          obtain ⟨x4, hx4⟩ : ∃ x, x = dk[q]! := ⟨_, rfl⟩
          obtain ⟨y4, hy4⟩ : ∃ x, x = dk[q + 1]! := ⟨_, rfl⟩
          have S2 : Aside (SW enc w0 blk off (swp dk (q) (q + 1)) ((wr.setCell ⟨blk, off + i4, none⟩ (enc y4)).setCell ⟨blk, off + j4, none⟩ (enc x4)).drew) := by rw [hi4, hj4, hx4, hy4]; exact S1.out.swapped R (q) (q + 1) (by omega) (by omega)
          have c4a := S1.out.c1 R (by omega) (q) (by omega)
          have c4b := S1.out.c1 R (by omega) (q + 1) (by omega)
          have f4a := S1.out.f1 R (by omega) (q) (by omega)
          have f4b := S1.out.f1 R (by omega) (q + 1) (by omega)
          obtain ⟨u4, c4c⟩ := S1.out.c2 R (by omega) (q) (q + 1) (by omega) (by omega) (enc y4)
          rw [← hj4, ← hi4] at c4c
          rw [← hx4, ← hi4] at c4a
          rw [← hy4, ← hj4] at c4b
          rw [← hi4] at f4a
          rw [← hj4] at f4b
          clear S1 hx4 hy4 hi4 hj4
          go_wp2_with fail
          go_big_region_o
          clear c4a c4b c4c f4a f4b
          generalize ((wr.setCell ⟨blk, off + i4, none⟩ (enc y4)).setCell ⟨blk, off + j4, none⟩ (enc x4)).drew = w2 at S2 ⊢
          clear ea4 ec4
          go_wp2
          go_roundg (ip - (q + 1))
          case measure => omega
          case rel => exact ⟨q + 1, swp dk q (q + 1), by go_num, by omega, by omega, Nat.le_refl _, by rw [size_swp]; exact hds, S2, Q2.out.up haq (by omega)⟩
        · have hqe : q = ip := by omega
          subst hqe
          go_wp2
          refine bodyPost_ret (results_none rfl _ _ _) rfl ?_
          refine ⟨rfl, dk, ⟨?_, fun hT _ h2 => ?_⟩, S1.out⟩
          · have h1 := HIP.out
            have h2 := HB.out
            have h3 := HM.out
            have h4 : PermIn a (q + 1) d dk := Q2.out.perm (by omega) (by omega) (by omega)
            exact permIn_mono d dk a (q + 1) a b (Nat.le_refl _) (by omega) hb h4
          · have h1 := HIP.out
            have h3 := HM.out
            have h5 := HB.out
            have h6 := Q1.out
            rw [h3] at hT h2 h6 h5
            rw [h1] at h6 h5
            exact mrg_one hS hb (by omega) (by omega) h6.1 h6.2 Q2.out hT h2
end Go.Proofs.Ytikmffdmgnjpbaa
/- slices.symMergeCmpFunc over numbers where the second part has one element. -/
namespace Go.Proofs.Ytikmffdmgnjpbaa
open Go.Shelf Go.RowKit Go.Lib Go.Sort
variable {P : Program} {α : Type} [Inhabited α]
set_option maxHeartbeats 8000000 in
set_option maxRecDepth 1000000 in
theorem sym_two_i (L : StPI P) (enc : α × Nat → Value) (cf : α → α → Int) (lt : α → α → Bool) (hlt : ∀ x y, lt x y = decide (cf x y < 0)) (g : Nat) (cb : Array Value) (blk off cap a m b : Nat) (d0 d : Array (α × Nat)) (w0 w : World)
    (eg : ∀ args w, (callFunc g args).run P w = .ok (.enter g args) w) (hcmp : CmpLays1 P g cb enc (fun x y => cf x.1 y.1) blk off d0.size w0) (hS : SWO lt)
    (R : Row1 enc w0 blk off d0) (hs : d0.size = d.size) (S : SW enc w0 blk off d w) (hm : b = m + 1) (hm1 : m ≠ a + 1) (ham : a < m) (_hmb : m < b) (hb : b ≤ d.size) (hsz : d.size ≤ 1000000) :
    Calls P 51 #[.slice (some ⟨blk, off, none⟩) d.size cap, .int .i64 a, .int .i64 m, .int .i64 b, .func (.func g) #[] cb] w fun e w' => e = .returned (.tuple #[]) ∧ ∃ d', Mrg lt a m b d d' ∧ SW enc w0 blk off d' w' := by
  have S0 : Aside (SW enc w0 blk off d w) := S
  have HC : Aside _ := hcmp
  have HLT : Aside (∀ x y, lt x y = decide (cf x y < 0)) := hlt
  clear S hcmp hlt
  have mixed := L.mixed; have t0 := L.t0; have a0 := L.a0; have z0 := L.z0; have v0 := L.v0; have t3 := L.t3; have a3 := L.a3; have z3 := L.z3; have v3 := L.v3; have t4 := L.t4; have a4 := L.a4; have z4 := L.z4; have v4 := L.v4; have t22 := L.t22; have a22 := L.a22; have z22 := L.z22; have v22 := L.v22; have t25 := L.t25; have a25 := L.a25; have z25 := L.z25; have v25 := L.v25; have t39 := L.t39; have a39 := L.a39; have z39 := L.z39; have v39 := L.v39
  have u22 := run_underlying L.t22
  have hcl0 := R.hO.cells
  simp only [Value.cells] at hcl0
  have hst := R.hO.store P
  have FG := L.fSym
  clear L
  obtain ⟨q0, hq0⟩ : ∃ q, q = m - a := ⟨_, rfl⟩
  have e0 : IntKind.i64.wrap ((m : Int) - (a : Int)) = (q0 : Int) := by rw [IntKind.wrap_i64]; omega
  have h0 : (q0 : Int) ≠ 1 := by omega
  have e1 : IntKind.i64.wrap ((b : Int) - (m : Int)) = 1 := by rw [IntKind.wrap_i64]; omega
  have HM : Hid (b = m + 1) := hm
  have HB : Hid (m < d.size) := by unfold Hid; omega
  clear hm hq0 hm1
  go_enter FG, Try.ntmps51
  go_wp2
  clear e0 e1 h0
  go_loopg [14, 15] (m - a) (fun kx vi vj wr => ∃ i j : Nat, vi = .int .i64 i ∧ vj = .int .i64 j ∧ a ≤ i ∧ i ≤ j ∧ j ≤ m ∧ j - i ≤ kx ∧ Aside (SW enc w0 blk off d wr) ∧ Aside ((i = a ∨ ltp lt d[m]! d[i - 1]! = false) ∧ (j = m ∨ ltp lt d[m]! d[j]! = true)))
  case atStart => exact ⟨a, m, rfl, rfl, Nat.le_refl _, by omega, Nat.le_refl _, Nat.le_refl _, S0, .inl rfl, .inl rfl⟩
  case round =>
    clear S0
    obtain ⟨i, j, rfl, rfl, hmi, hij, hjb, hkx, S1, Q1⟩ := hrel
    have hms : m < d.size := HB.out
    by_cases hl : i < j
    · obtain ⟨h, hh⟩ : ∃ h, h = (i + j) / 2 := ⟨_, rfl⟩
      have eh : ((i : Int) + (j : Int)) / 2 = (h : Int) := by omega
      have hh1 : i ≤ h := by omega
      have hh2 : h < j := by omega
      clear hh
      have ea1 : ((h : Int)).toNat = h := by omega
      have pa1 : (0 : Int) ≤ (h : Int) := by omega
      have ba1 : (h : Int) < (d.size : Int) := by omega
      have ra1 : IntKind.i64.wrap ((h : Int)) = (h : Int) := by rw [IntKind.wrap_i64]; omega
      have ea2 : ((m : Int)).toNat = m := by omega
      have pa2 : (0 : Int) ≤ (m : Int) := by omega
      have ba2 : (m : Int) < (d.size : Int) := by omega
      have ra2 : IntKind.i64.wrap ((m : Int)) = (m : Int) := by rw [IntKind.wrap_i64]; omega
      by_cases hlv : cf d[m]!.1 d[h]!.1 < 0
      · obtain ⟨x3, hx3⟩ : ∃ x, x = d[m]! := ⟨_, rfl⟩
        obtain ⟨y3, hy3⟩ : ∃ x, x = d[h]! := ⟨_, rfl⟩
        have l3a := S1.out.cl R (by omega) (m) (by omega)
        have l3b := S1.out.cl R (by omega) (h) (by omega)
        rw [← hx3] at l3a
        rw [← hy3] at l3b
        have hc3 := S1.out.cmp HC.out (by omega) x3 y3
        have hv3 : cf x3.1 y3.1 < 0 := by rw [hx3, hy3]; exact hlv
        have hd3 : decide (cf x3.1 y3.1 < 0) = true := decide_eq_true hv3
        have HLV := Lib.hid hlv
        clear hx3 hy3 hlv
        go_wp2_with fail
        go_quiet_grown (first | (go_at_fn g; refine Calls.grown_of (hc3 _ _)))
        have SU : Aside (SW enc w0 blk off d (grow (wr.drewN nq) osq)) := S1.out.grown nq osq
        clear l3a l3b hc3 S1
        generalize grow (wr.drewN nq) osq = wu at SU ⊢
        clear nq osq
        go_wp2
        go_roundg (h - i)
        case measure => omega
        case rel => exact ⟨i, h, by go_num, by go_num, hmi, by omega, by omega, Nat.le_refl _, SU, Q1.out.1, .inr (by unfold ltp; rw [HLT.out]; exact decide_eq_true HLV.out)⟩
      · obtain ⟨x3, hx3⟩ : ∃ x, x = d[m]! := ⟨_, rfl⟩
        obtain ⟨y3, hy3⟩ : ∃ x, x = d[h]! := ⟨_, rfl⟩
        have l3a := S1.out.cl R (by omega) (m) (by omega)
        have l3b := S1.out.cl R (by omega) (h) (by omega)
        rw [← hx3] at l3a
        rw [← hy3] at l3b
        have hc3 := S1.out.cmp HC.out (by omega) x3 y3
        have hv3 : ¬ cf x3.1 y3.1 < 0 := by rw [hx3, hy3]; exact hlv
        have hd3 : decide (cf x3.1 y3.1 < 0) = false := decide_eq_false hv3
        have HLV := Lib.hid hlv
        clear hx3 hy3 hlv
        go_wp2_with fail
        go_quiet_grown (first | (go_at_fn g; refine Calls.grown_of (hc3 _ _)))
        have SU : Aside (SW enc w0 blk off d (grow (wr.drewN nq) osq)) := S1.out.grown nq osq
        clear l3a l3b hc3 S1
        generalize grow (wr.drewN nq) osq = wu at SU ⊢
        clear nq osq
        go_wp2
        go_roundg (j - (h + 1))
        case measure => omega
        case rel => exact ⟨h + 1, j, by go_num, by go_num, by omega, by omega, hjb, Nat.le_refl _, SU, .inr (by show ltp lt d[m]! d[h]! = false; unfold ltp; rw [HLT.out]; exact decide_eq_false (by have := HLV.out; omega)), Q1.out.2⟩
    · have hi2 : i = j := by omega
      subst hi2
      clear hkx hij
      go_wp2
      go_loopg [17] (m - i) (fun kx vk wr => ∃ (q : Nat) (dk : Array (α × Nat)), vk = .int .i64 q ∧ i ≤ q ∧ q ≤ m ∧ q - i ≤ kx ∧ dk.size = d.size ∧ Aside (SW enc w0 blk off dk wr) ∧ Aside (Rot q m (m + 1) d dk))
      case atStart => exact ⟨m, d, rfl, hjb, Nat.le_refl _, Nat.le_refl _, rfl, S1, Rot.rest m d⟩
      case round =>
        clear S1
        obtain ⟨q, dk, rfl, haq, hqi, hkx, hds, S1, Q2⟩ := hrel
        by_cases hl : i < q
        · obtain ⟨jp, rfl⟩ : ∃ jp, q = jp + 1 := ⟨q - 1, by omega⟩
          have hlz : (i : Int) < (jp : Int) + 1 := by omega
          obtain ⟨i4, hi4⟩ : ∃ qq, qq = jp + 1 := ⟨_, rfl⟩
          obtain ⟨j4, hj4⟩ : ∃ qq, qq = jp := ⟨_, rfl⟩
          have ea4 : ((jp : Int) + 1).toNat = i4 := by omega
          have pa4 : (0 : Int) ≤ (jp : Int) + 1 := by omega
          have ba4 : (jp : Int) + 1 < (d.size : Int) := by omega
          have ra4 : IntKind.i64.wrap ((jp : Int) + 1) = (jp : Int) + 1 := by rw [IntKind.wrap_i64]; omega
          have ec4 : ((jp : Int)).toNat = j4 := by omega
          have pc4 : (0 : Int) ≤ (jp : Int) := by omega
          have bc4 : (jp : Int) < (d.size : Int) := by omega
          have rc4 : IntKind.i64.wrap ((jp : Int)) = (jp : Int) := by rw [IntKind.wrap_i64]; omega
          obtain ⟨x4, hx4⟩ : ∃ x, x = dk[jp + 1]! := ⟨_, rfl⟩
          obtain ⟨y4, hy4⟩ : ∃ x, x = dk[jp]! := ⟨_, rfl⟩
          have S2 : Aside (SW enc w0 blk off (swp dk (jp + 1) (jp)) ((wr.setCell ⟨blk, off + i4, none⟩ (enc y4)).setCell ⟨blk, off + j4, none⟩ (enc x4)).drew) := by rw [hi4, hj4, hx4, hy4]; exact S1.out.swapped R (jp + 1) (jp) (by omega) (by omega)
          have c4a := S1.out.c1 R (by omega) (jp + 1) (by omega)
          have c4b := S1.out.c1 R (by omega) (jp) (by omega)
          have f4a := S1.out.f1 R (by omega) (jp + 1) (by omega)
          have f4b := S1.out.f1 R (by omega) (jp) (by omega)
          obtain ⟨u4, c4c⟩ := S1.out.c2 R (by omega) (jp + 1) (jp) (by omega) (by omega) (enc y4)
          rw [← hi4, ← hj4] at c4c
          rw [← hx4, ← hi4] at c4a
          rw [← hy4, ← hj4] at c4b
          rw [← hi4] at f4a
          rw [← hj4] at f4b
          clear S1 hx4 hy4 hi4 hj4
          go_wp2_with fail
          go_big_region_o
          clear c4a c4b c4c f4a f4b
          generalize ((wr.setCell ⟨blk, off + i4, none⟩ (enc y4)).setCell ⟨blk, off + j4, none⟩ (enc x4)).drew = w2 at S2 ⊢
          clear ea4 ec4
          go_wp2
          go_roundg (jp - i)
          case measure => omega
          case rel => exact ⟨jp, swp dk (jp + 1) jp, by go_num, by omega, by omega, Nat.le_refl _, by rw [size_swp]; exact hds, S2, Q2.out.down (by omega) hms⟩
        · have hqe : i = q := by omega
          subst hqe
          go_wp2
          refine bodyPost_ret (results_none rfl _ _ _) rfl ?_
          refine ⟨rfl, dk, ⟨?_, fun hT h2 _ => ?_⟩, S1.out⟩
          · have h3 := HM.out
            have h4 : PermIn i (m + 1) d dk := Q2.out.perm (by omega) (by omega) (by omega)
            rw [h3]
            exact permIn_mono d dk i (m + 1) a (m + 1) (by omega) (Nat.le_refl _) (by omega) h4
          · have h3 := HM.out
            rw [h3] at hT ⊢
            exact mrg_two hS hms (by omega) (by omega) Q1.out.1 Q1.out.2 Q2.out hT h2
end Go.Proofs.Ytikmffdmgnjpbaa
