import Derived.Test.YtikmffdmgnjpbaaPackAM
import Derived.Test.YtikmffdmgnjpbaaPackAJ
import Derived.Test.YtikmffdmgnjpbaaPackAB
import Derived.Deep.CutBlock
import Derived.Deep.DeepCutAuto
/- Plain facts on an author's chain that was made statement by statement: all of it counts; what comes next; it is in layer 10's order. -/
namespace Go.Proofs.Ytikmffdmgnjpbaa
open Go.RowKit
/-- A chain of an author: numbers from 0, each follows the one before it, none after the last word. -/
structure Ch (au : Int) (c : List Stm) : Prop where
  each : ∀ i, i < c.length → (c.getD i noStm).author = au ∧ (c.getD i noStm).number = (i : Int) ∧ checkV (c.getD i noStm) = 0 ∧ sealedB (c.getD i noStm) = true
  step : ∀ i, 0 < i → i < c.length → followsR (c.getD (i - 1) noStm) (c.getD i noStm) = true ∧ (c.getD (i - 1) noStm).kind ≠ 3
theorem Ch.nil (au : Int) : Ch au [] := ⟨fun _ h => absurd h (Nat.not_lt_zero _), fun _ _ h => absurd h (Nat.not_lt_zero _)⟩
theorem snoc_lt {c : List Stm} {x : Stm} {i : Nat} (h : i < c.length) : (c ++ [x]).getD i noStm = c.getD i noStm := by
  rw [List.getD_eq_getElem?_getD, List.getElem?_append_left h, ← List.getD_eq_getElem?_getD]
theorem snoc_eq {c : List Stm} {x : Stm} : (c ++ [x]).getD c.length noStm = x := by
  rw [List.getD_eq_getElem?_getD, List.getElem?_append_right (Nat.le_refl _), Nat.sub_self]; rfl
theorem Ch.snoc {au : Int} {c : List Stm} {x : Stm} (h : Ch au c) (ha : x.author = au) (hn : x.number = (c.length : Int)) (hc : checkV x = 0) (hs : sealedB x = true) (hf : 0 < c.length → followsR (lastL c) x = true ∧ (lastL c).kind ≠ 3) : Ch au (c ++ [x]) := by
  constructor
  · intro i hi
    rw [List.length_append, List.length_singleton] at hi
    by_cases hl : i < c.length
    · rw [snoc_lt hl]; exact h.each i hl
    · rw [show i = c.length by omega, snoc_eq]; exact ⟨ha, hn, hc, hs⟩
  · intro i h0 hi
    rw [List.length_append, List.length_singleton] at hi
    by_cases hl : i < c.length
    · rw [snoc_lt hl, snoc_lt (by omega)]; exact h.step i h0 hl
    · have he : i = c.length := by omega
      subst he
      rw [snoc_eq, snoc_lt (by omega)]
      exact hf h0
theorem slotK_all : ∀ (l : List Stm) (x : Stm), (∀ a ∈ l, slotB a x = true) → slotK l x = l.length
  | [], _, _ => rfl
  | a :: l, x, h => by
    unfold slotK
    rw [if_pos (h a (List.mem_cons.2 (.inl rfl))), slotK_all l x fun b hb => h b (List.mem_cons.2 (.inr hb))]
    rfl
theorem putL_end {l : List Stm} {x : Stm} (h : ∀ a ∈ l, slotB a x = true) : putL l x = l ++ [x] := by
  unfold putL
  rw [slotK_all l x h, if_neg (fun hc => absurd hc.1 (Nat.lt_irrefl _)), List.take_length, List.drop_length]
theorem take_snoc {c : List Stm} {k : Nat} (h : k < c.length) : c.take (k + 1) = c.take k ++ [c.getD k noStm] := by
  rw [List.take_add_one, List.getElem?_eq_getElem h, stm_at h]; rfl
theorem Ch.own {au : Int} {c : List Stm} (h : Ch au c) : ∀ k, k ≤ c.length → ownL au (c.take k) = c.take k
  | 0, _ => rfl
  | k + 1, hk => by
    have h1 := h.each k (by omega)
    rw [take_snoc (by omega), ownL_app, h.own k (by omega)]
    unfold ownStep
    rw [if_pos ⟨h1.1, h1.2.2.1, h1.2.2.2⟩, putL_end fun a ha => ?_]
    obtain ⟨i, hi, he⟩ := List.mem_iff_getElem.1 ha
    rw [List.length_take] at hi
    rw [List.getElem_take] at he
    have h2 := h.each i (by omega)
    rw [stm_at (by omega : i < c.length), he] at h2
    rw [slotB_eq, if_pos (by omega)]
theorem Ch.own_all {au : Int} {c : List Stm} (h : Ch au c) : ownL au c = c := by
  have := h.own c.length (Nat.le_refl _)
  rwa [List.take_length] at this
theorem Ch.stepR {au : Int} {c : List Stm} (h : Ch au c) {i : Nat} (hi : i < c.length) : stepR c i = true := by
  have h1 := h.each i hi
  unfold Go.Proofs.Ytikmffdmgnjpbaa.stepR
  simp only [Bool.and_eq_true, Bool.or_eq_true, decide_eq_true_eq, Bool.not_eq_true']
  refine ⟨h1.2.1, ?_, ?_⟩
  · by_cases hn : i + 1 < c.length
    · have h2 := h.each (i + 1) hn
      rw [decide_eq_false (p := (c.getD (i + 1) noStm).number = (i : Int)) (by omega), Bool.and_false]
    · rw [decide_eq_false hn, Bool.false_and]
  · by_cases h0 : i = 0
    · exact .inl h0
    · have h2 := h.step i (by omega) hi
      exact .inr ⟨h2.1, by rw [decide_eq_false h2.2]⟩
theorem Ch.counts {au : Int} {c : List Stm} (h : Ch au c) : ∀ d i, i + d = c.length → countsFrom c (c.length - i) i = c.length
  | 0, i, hd => by rw [show c.length - i = 0 by omega]; unfold countsFrom; omega
  | d + 1, i, hd => by rw [countsFrom_step c c.length i (by omega) (h.stepR (by omega))]; exact h.counts d (i + 1) (by omega)
/-- All of a chain counts. -/
theorem Ch.counted {au : Int} {c : List Stm} (h : Ch au c) : countedR au c = c := by
  have h1 := h.counts c.length 0 (by omega)
  rw [Nat.sub_zero] at h1
  unfold countedR
  rw [h.own_all, h1, List.take_length]
theorem sealed_seal (s : Stm) : sealedB (sealOf s) = true := by
  show (decide (s.author = s.author) && decide (digS s = digS (sealOf s))) = true
  rw [decide_eq_true rfl, show digS (sealOf s) = digS s from rfl, decide_eq_true rfl]
  rfl
theorem Ch.more {au : Int} {c : List Stm} (h : Ch au c) {s : Stm} (ht : 0 < c.length → (lastL c).time ≤ s.time) (hk : 0 < c.length → (lastL c).kind ≠ 3) (hc : checkV (sealOf (draftR au c s)) = 0) : Ch au (c ++ [sealOf (draftR au c s)]) := by
  refine h.snoc ?_ ?_ hc (sealed_seal _) fun h0 => ⟨?_, hk h0⟩
  · unfold draftR; split <;> rfl
  · unfold draftR
    split
    · rename_i hz; rw [hz]; rfl
    · rfl
  · have h1 := h.each (c.length - 1) (by omega)
    unfold draftR
    rw [if_neg (by omega)]
    show (decide (au = (lastL c).author) && (decide ((c.length : Int) = (lastL c).number + 1) && (decide (digS (lastL c) = digS (lastL c)) && decide ((lastL c).time ≤ s.time)))) = true
    have h2 : (lastL c).author = au := h1.1
    have h3 : (lastL c).number = ((c.length - 1 : Nat) : Int) := h1.2.1
    rw [decide_eq_true h2.symm, decide_eq_true (by omega), decide_eq_true rfl, decide_eq_true (ht h0)]
    rfl
/-- What comes next in a chain. -/
theorem Ch.next {au : Int} {c : List Stm} (h : Ch au c) {s : Stm} (ht : 0 < c.length → (lastL c).time ≤ s.time) (hk : 0 < c.length → (lastL c).kind ≠ 3) (hc : checkV (sealOf (draftR au c s)) = 0) : nextP au c s = (sealOf (draftR au c s), 0) := by
  unfold nextP
  rw [if_neg (fun hx => by rw [h.counted, sameLB_self] at hx; exact absurd hx.2 (by decide)), if_neg (fun hx => by have := ht (by omega); omega), if_neg (fun hx => hk (by omega) hx.2), if_pos hc]
/-- What Next gave, put behind a chain, is a chain. -/
theorem Ch.given {au : Int} {c : List Stm} (h : Ch au c) {s : Stm} (he : (nextP au c s).2 = 0) : Ch au (c ++ [(nextP au c s).1]) := by
  by_cases h1 : c.length ≠ 0 ∧ sameLB (countedR au c) c = false
  · unfold nextP at he; rw [if_pos h1] at he; exact absurd he (by decide)
  · by_cases h2 : c.length ≠ 0 ∧ s.time < (lastL c).time
    · unfold nextP at he; rw [if_neg h1, if_pos h2] at he; exact absurd he (by decide)
    · by_cases h3 : c.length ≠ 0 ∧ (lastL c).kind = 3
      · unfold nextP at he; rw [if_neg h1, if_neg h2, if_pos h3] at he; exact absurd he (by decide)
      · by_cases h4 : checkV (sealOf (draftR au c s)) = 0
        · have h5 : nextP au c s = (sealOf (draftR au c s), 0) := by unfold nextP; rw [if_neg h1, if_neg h2, if_neg h3, if_pos h4]
          rw [h5]
          exact h.more (fun h0 => by omega) (fun h0 hc => h3 ⟨by omega, hc⟩) h4
        · unfold nextP at he; rw [if_neg h1, if_neg h2, if_neg h3, if_neg h4] at he; exact absurd he h4
theorem Ch.mem {au : Int} {c : List Stm} (h : Ch au c) {s : Stm} (hs : s ∈ c) : s.author = au ∧ checkV s = 0 := by
  obtain ⟨i, hi, rfl⟩ := mem_at hs
  exact ⟨(h.each i hi).1, (h.each i hi).2.2.1⟩
theorem Ord10.app {l m : List Stm} (h : Ord10 l) (k : Ord10 m) (hlm : ∀ a ∈ l, ∀ b ∈ m, a.author < b.author) : Ord10 (l ++ m) :=
  ⟨fun s hs => by
    rcases List.mem_append.1 hs with hs | hs
    · exact h.ok s hs
    · exact k.ok s hs, h.link.app k.link, List.pairwise_append.2 ⟨h.ord, k.ord, fun a ha b hb => .inl (hlm a ha b hb)⟩⟩
end Go.Proofs.Ytikmffdmgnjpbaa
/- Plain facts on the vouch between two: it is the last one by then, or none. -/
namespace Go.Proofs.Ytikmffdmgnjpbaa
open Go.RowKit
theorem Ord10.same {S : List Stm} (h : Ord10 S) {a b : Stm} (ha : a ∈ S) (hb : b ∈ S) (he : a.author = b.author) (hn : a.number = b.number) : a = b := by
  obtain ⟨i, hi, rfl⟩ := mem_at ha
  obtain ⟨j, hj, rfl⟩ := mem_at hb
  rcases Nat.lt_or_ge i j with hc | hc
  · have := h.at hc hj; omega
  · rcases Nat.lt_or_ge j i with hd | hd
    · have := h.at hd hi; omega
    · rw [show i = j by omega]
end Go.Proofs.Ytikmffdmgnjpbaa
/- Plain facts on the graph of a time. -/
namespace Go.Proofs.Ytikmffdmgnjpbaa
open Go.RowKit
theorem hasI_iff (x : Int) : ∀ l : List Int, hasI l x = true ↔ x ∈ l
  | [] => ⟨fun h => (nomatch h), fun h => (nomatch h)⟩
  | a :: l => by
    rw [List.mem_cons, hasI]
    split
    · rename_i h; exact ⟨fun _ => .inl h.symm, fun _ => rfl⟩
    · rename_i h
      rw [hasI_iff x l]
      exact ⟨.inr, fun h2 => h2.elim (fun h3 => absurd h3.symm h) id⟩
end Go.Proofs.Ytikmffdmgnjpbaa
/- The walk of the dice's Spoil. -/
namespace Go.Proofs.Ytikmffdmgnjpbaa
open Go.RowKit
end Go.Proofs.Ytikmffdmgnjpbaa
/- The walks of the dice's Lists and Store. -/
namespace Go.Proofs.Ytikmffdmgnjpbaa
open Go.RowKit
end Go.Proofs.Ytikmffdmgnjpbaa
