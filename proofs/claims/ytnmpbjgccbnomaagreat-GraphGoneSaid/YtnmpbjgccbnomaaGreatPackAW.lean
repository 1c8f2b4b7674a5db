import Derived.Test.YtnmpbjgccbnomaaGreatPackAV
import Derived.Test.YtnmpbjgccbnomaaGreatPackAC
/- Plain facts on an author's chain that was made statement by statement: all of it counts; what comes next; it is in layer 10's order. -/
namespace Go.Proofs.YtnmpbjgccbnomaaGreat
open Go.RowKit
/-- A chain of an author: numbers from 0, each follows the one before it, none after the last word. -/
structure Ch (au : Int) (c : List Stm) : Prop where
  each : ∀ i, i < c.length → (c.getD i noStm).author = au ∧ (c.getD i noStm).number = (i : Int) ∧ checkV (c.getD i noStm) = 0 ∧ sealedB (c.getD i noStm) = true
  step : ∀ i, 0 < i → i < c.length → followsR (c.getD (i - 1) noStm) (c.getD i noStm) = true ∧ (c.getD (i - 1) noStm).kind ≠ 3
theorem Ch.nil (au : Int) : Ch au [] := ⟨fun _ h => absurd h (Nat.not_lt_zero _), fun _ _ h => absurd h (Nat.not_lt_zero _)⟩
theorem snoc_lt {c : List Stm} {x : Stm} {i : Nat} (h : i < c.length) : (c ++ [x]).getD i noStm = c.getD i noStm := by
  rw [List.getD_eq_getElem?_getD, List.getElem?_append_left h, ← List.getD_eq_getElem?_getD]
theorem snoc_eq {c : List Stm} {x : Stm} : (c ++ [x]).getD c.length noStm = x := by
  rw [List.getD_eq_getElem?_getD, List.getElem?_append_right (Nat.le_refl _), Nat.sub_self]; rfl
theorem Ch.snoc {au : Int} {c : List Stm} {x : Stm} (h : Ch au c) (ha : x.author = au) (hn : x.number = (c.length : Int)) (hc : checkV x = 0) (hs : sealedB x = true) (hf : 0 < c.length → followsR (lastL c) x = true ∧ (lastL c).kind ≠ 3) : Ch au (c ++ [x]) := by
  constructor
  · intro i hi
    rw [List.length_append, List.length_singleton] at hi
    by_cases hl : i < c.length
    · rw [snoc_lt hl]; exact h.each i hl
    · rw [show i = c.length by omega, snoc_eq]; exact ⟨ha, hn, hc, hs⟩
  · intro i h0 hi
    rw [List.length_append, List.length_singleton] at hi
    by_cases hl : i < c.length
    · rw [snoc_lt hl, snoc_lt (by omega)]; exact h.step i h0 hl
    · have he : i = c.length := by omega
      subst he
      rw [snoc_eq, snoc_lt (by omega)]
      exact hf h0
theorem slotK_all : ∀ (l : List Stm) (x : Stm), (∀ a ∈ l, slotB a x = true) → slotK l x = l.length
  | [], _, _ => rfl
  | a :: l, x, h => by
    unfold slotK
    rw [if_pos (h a (List.mem_cons.2 (.inl rfl))), slotK_all l x fun b hb => h b (List.mem_cons.2 (.inr hb))]
    rfl
theorem putL_end {l : List Stm} {x : Stm} (h : ∀ a ∈ l, slotB a x = true) : putL l x = l ++ [x] := by
  unfold putL
  rw [slotK_all l x h, if_neg (fun hc => absurd hc.1 (Nat.lt_irrefl _)), List.take_length, List.drop_length]
theorem take_snoc {c : List Stm} {k : Nat} (h : k < c.length) : c.take (k + 1) = c.take k ++ [c.getD k noStm] := by
  rw [List.take_add_one, List.getElem?_eq_getElem h, stm_at h]; rfl
theorem Ch.own {au : Int} {c : List Stm} (h : Ch au c) : ∀ k, k ≤ c.length → ownL au (c.take k) = c.take k
  | 0, _ => rfl
  | k + 1, hk => by
    have h1 := h.each k (by omega)
    rw [take_snoc (by omega), ownL_app, h.own k (by omega)]
    unfold ownStep
    rw [if_pos ⟨h1.1, h1.2.2.1, h1.2.2.2⟩, putL_end fun a ha => ?_]
    obtain ⟨i, hi, he⟩ := List.mem_iff_getElem.1 ha
    rw [List.length_take] at hi
    rw [List.getElem_take] at he
    have h2 := h.each i (by omega)
    rw [stm_at (by omega : i < c.length), he] at h2
    rw [slotB_eq, if_pos (by omega)]
theorem Ch.own_all {au : Int} {c : List Stm} (h : Ch au c) : ownL au c = c := by
  have := h.own c.length (Nat.le_refl _)
  rwa [List.take_length] at this
theorem Ch.stepR {au : Int} {c : List Stm} (h : Ch au c) {i : Nat} (hi : i < c.length) : stepR c i = true := by
  have h1 := h.each i hi
  unfold Go.Proofs.YtnmpbjgccbnomaaGreat.stepR
  simp only [Bool.and_eq_true, Bool.or_eq_true, decide_eq_true_eq, Bool.not_eq_true']
  refine ⟨h1.2.1, ?_, ?_⟩
  · by_cases hn : i + 1 < c.length
    · have h2 := h.each (i + 1) hn
      rw [decide_eq_false (p := (c.getD (i + 1) noStm).number = (i : Int)) (by omega), Bool.and_false]
    · rw [decide_eq_false hn, Bool.false_and]
  · by_cases h0 : i = 0
    · exact .inl h0
    · have h2 := h.step i (by omega) hi
      exact .inr ⟨h2.1, by rw [decide_eq_false h2.2]⟩
theorem Ch.counts {au : Int} {c : List Stm} (h : Ch au c) : ∀ d i, i + d = c.length → countsFrom c (c.length - i) i = c.length
  | 0, i, hd => by rw [show c.length - i = 0 by omega]; unfold countsFrom; omega
  | d + 1, i, hd => by rw [countsFrom_step c c.length i (by omega) (h.stepR (by omega))]; exact h.counts d (i + 1) (by omega)
/-- All of a chain counts. -/
theorem Ch.counted {au : Int} {c : List Stm} (h : Ch au c) : countedR au c = c := by
  have h1 := h.counts c.length 0 (by omega)
  rw [Nat.sub_zero] at h1
  unfold countedR
  rw [h.own_all, h1, List.take_length]
theorem sealed_seal (s : Stm) : sealedB (sealOf s) = true := by
  show (decide (s.author = s.author) && decide (digS s = digS (sealOf s))) = true
  rw [decide_eq_true rfl, show digS (sealOf s) = digS s from rfl, decide_eq_true rfl]
  rfl
theorem Ch.more {au : Int} {c : List Stm} (h : Ch au c) {s : Stm} (ht : 0 < c.length → (lastL c).time ≤ s.time) (hk : 0 < c.length → (lastL c).kind ≠ 3) (hc : checkV (sealOf (draftR au c s)) = 0) : Ch au (c ++ [sealOf (draftR au c s)]) := by
  refine h.snoc ?_ ?_ hc (sealed_seal _) fun h0 => ⟨?_, hk h0⟩
  · unfold draftR; split <;> rfl
  · unfold draftR
    split
    · rename_i hz; rw [hz]; rfl
    · rfl
  · have h1 := h.each (c.length - 1) (by omega)
    unfold draftR
    rw [if_neg (by omega)]
    show (decide (au = (lastL c).author) && (decide ((c.length : Int) = (lastL c).number + 1) && (decide (digS (lastL c) = digS (lastL c)) && decide ((lastL c).time ≤ s.time)))) = true
    have h2 : (lastL c).author = au := h1.1
    have h3 : (lastL c).number = ((c.length - 1 : Nat) : Int) := h1.2.1
    rw [decide_eq_true h2.symm, decide_eq_true (by omega), decide_eq_true rfl, decide_eq_true (ht h0)]
    rfl
/-- What comes next in a chain. -/
theorem Ch.next {au : Int} {c : List Stm} (h : Ch au c) {s : Stm} (ht : 0 < c.length → (lastL c).time ≤ s.time) (hk : 0 < c.length → (lastL c).kind ≠ 3) (hc : checkV (sealOf (draftR au c s)) = 0) : nextP au c s = (sealOf (draftR au c s), 0) := by
  unfold nextP
  rw [if_neg (fun hx => by rw [h.counted, sameLB_self] at hx; exact absurd hx.2 (by decide)), if_neg (fun hx => by have := ht (by omega); omega), if_neg (fun hx => hk (by omega) hx.2), if_pos hc]
/-- What Next gave, put behind a chain, is a chain. -/
theorem Ch.given {au : Int} {c : List Stm} (h : Ch au c) {s : Stm} (he : (nextP au c s).2 = 0) : Ch au (c ++ [(nextP au c s).1]) := by
  by_cases h1 : c.length ≠ 0 ∧ sameLB (countedR au c) c = false
  · unfold nextP at he; rw [if_pos h1] at he; exact absurd he (by decide)
  · by_cases h2 : c.length ≠ 0 ∧ s.time < (lastL c).time
    · unfold nextP at he; rw [if_neg h1, if_pos h2] at he; exact absurd he (by decide)
    · by_cases h3 : c.length ≠ 0 ∧ (lastL c).kind = 3
      · unfold nextP at he; rw [if_neg h1, if_neg h2, if_pos h3] at he; exact absurd he (by decide)
      · by_cases h4 : checkV (sealOf (draftR au c s)) = 0
        · have h5 : nextP au c s = (sealOf (draftR au c s), 0) := by unfold nextP; rw [if_neg h1, if_neg h2, if_neg h3, if_pos h4]
          rw [h5]
          exact h.more (fun h0 => by omega) (fun h0 hc => h3 ⟨by omega, hc⟩) h4
        · unfold nextP at he; rw [if_neg h1, if_neg h2, if_neg h3, if_neg h4] at he; exact absurd he h4
theorem Ch.mem {au : Int} {c : List Stm} (h : Ch au c) {s : Stm} (hs : s ∈ c) : s.author = au ∧ checkV s = 0 := by
  obtain ⟨i, hi, rfl⟩ := mem_at hs
  exact ⟨(h.each i hi).1, (h.each i hi).2.2.1⟩
theorem Ord10.app {l m : List Stm} (h : Ord10 l) (k : Ord10 m) (hlm : ∀ a ∈ l, ∀ b ∈ m, a.author < b.author) : Ord10 (l ++ m) :=
  ⟨fun s hs => by
    rcases List.mem_append.1 hs with hs | hs
    · exact h.ok s hs
    · exact k.ok s hs, h.link.app k.link, List.pairwise_append.2 ⟨h.ord, k.ord, fun a ha b hb => .inl (hlm a ha b hb)⟩⟩
end Go.Proofs.YtnmpbjgccbnomaaGreat
/- Plain facts on the vouch between two: it is the last one by then, or none. -/
namespace Go.Proofs.YtnmpbjgccbnomaaGreat
open Go.RowKit
theorem Ord10.same {S : List Stm} (h : Ord10 S) {a b : Stm} (ha : a ∈ S) (hb : b ∈ S) (he : a.author = b.author) (hn : a.number = b.number) : a = b := by
  obtain ⟨i, hi, rfl⟩ := mem_at ha
  obtain ⟨j, hj, rfl⟩ := mem_at hb
  rcases Nat.lt_or_ge i j with hc | hc
  · have := h.at hc hj; omega
  · rcases Nat.lt_or_ge j i with hd | hd
    · have := h.at hd hi; omega
    · rw [show i = j by omega]
end Go.Proofs.YtnmpbjgccbnomaaGreat
/- What vouch looks for in Active, and that it comes to the same. Plain facts. -/
namespace Go.Proofs.YtnmpbjgccbnomaaGreat
open Go.RowKit
/-- Whether a vouch, looked at alone, holds at a time. -/
def holdsV (p : Vou) (tm : Int) : Bool := decide (p.tm ≤ tm) && (decide (tm < p.en) && (decide (p.rv = -1) || decide (tm < p.rv)))
/-- Whether one of those that follow at once takes its place. -/
def runLater (p : Vou) (tm : Int) : List Vou → Bool
  | [] => false
  | y :: m => if y.fr ≠ p.fr ∨ y.tu ≠ p.tu then false else if y.tm ≤ tm then true else runLater p tm m
def keepA (all : List Vou) (gone : List Int) (tm : Int) (i : Nat) : Bool :=
  holdsV (all.getD i noVou) tm && (!hasI gone (all.getD i noVou).fr && (!hasI gone (all.getD i noVou).tu && !runLater (all.getD i noVou) tm (all.drop (i + 1))))
def actA (all : List Vou) (gone : List Int) (tm : Int) : Nat → List Vou
  | 0 => []
  | i + 1 => actA all gone tm i ++ (if keepA all gone tm i then [all.getD i noVou] else [])
theorem actA_len (all : List Vou) (gone : List Int) (tm : Int) : ∀ i, (actA all gone tm i).length ≤ i
  | 0 => Nat.le_refl _
  | i + 1 => by
    have h := actA_len all gone tm i
    unfold actA
    rw [List.length_append]
    split <;> simp <;> omega
theorem runLater_iff (p : Vou) (tm : Int) : ∀ m : List Vou, runLater p tm m = true ↔ ∃ k, k < m.length ∧ (∀ i, i ≤ k → (m.getD i noVou).fr = p.fr ∧ (m.getD i noVou).tu = p.tu) ∧ (m.getD k noVou).tm ≤ tm
  | [] => by simp [runLater]
  | y :: m => by
    unfold runLater
    split
    · rename_i h
      refine ⟨(fun q => by cases q), ?_⟩
      rintro ⟨k, hk, hs, ht⟩
      have h0 := hs 0 (Nat.zero_le _)
      rw [List.getD_cons_zero] at h0
      rcases h with h | h
      · exact absurd h0.1 h
      · exact absurd h0.2 h
    · rename_i h
      have hy : y.fr = p.fr ∧ y.tu = p.tu := by
        by_cases h1 : y.fr = p.fr
        · by_cases h2 : y.tu = p.tu
          · exact ⟨h1, h2⟩
          · exact absurd (.inr h2) h
        · exact absurd (.inl h1) h
      split
      · rename_i ht
        refine ⟨fun _ => ⟨0, by simp, fun i hi => ?_, by simpa using ht⟩, fun _ => rfl⟩
        have : i = 0 := by omega
        subst this
        simpa using hy
      · rename_i ht
        rw [runLater_iff p tm m]
        constructor
        · rintro ⟨k, hk, hs, h2⟩
          refine ⟨k + 1, by simpa using hk, fun i hi => ?_, by simpa using h2⟩
          cases i with
          | zero => simpa using hy
          | succ i => simpa using hs i (by omega)
        · rintro ⟨k, hk, hs, h2⟩
          cases k with
          | zero => exact absurd (by simpa using h2) ht
          | succ k => exact ⟨k, by simpa using hk, fun i hi => by simpa using hs (i + 1) (by omega), by simpa using h2⟩
theorem run_later {S : List Stm} (h : Ord10 S) (tm : Int) (i : Nat) (hi : i < (vouchesS S).length) : runLater ((vouchesS S).getD i noVou) tm ((vouchesS S).drop (i + 1)) = laterB (vouchesS S) tm i := by
  have hsrt := vouches_sorted h
  rw [Bool.eq_iff_iff, runLater_iff, later_iff h tm i hi]
  have hd : ∀ k, ((vouchesS S).drop (i + 1)).getD k noVou = (vouchesS S).getD (i + 1 + k) noVou := fun k => by
    rw [List.getD_eq_getElem?_getD, List.getD_eq_getElem?_getD, List.getElem?_drop]
  constructor
  · rintro ⟨k, hk, hs, ht⟩
    rw [List.length_drop] at hk
    have hk2 : i + 1 + k < (vouchesS S).length := by omega
    have hsk := hs k (Nat.le_refl _)
    rw [hd] at hsk ht
    have hlt := sortV_at hsrt (show i < i + 1 + k by omega) hk2
    unfold ltV at hlt
    exact ⟨_, getV_mem hk2, hsk.1, hsk.2, by omega, ht⟩
  · intro hy
    have hb := (later_iff h tm i hi).2 hy
    unfold laterB at hb
    rw [Bool.and_eq_true, Bool.and_eq_true, Bool.and_eq_true, decide_eq_true_eq, decide_eq_true_eq, decide_eq_true_eq, decide_eq_true_eq] at hb
    refine ⟨0, by rw [List.length_drop]; omega, fun k hk => ?_, by rw [hd]; exact hb.2.2.2⟩
    have : k = 0 := by omega
    subst this
    rw [hd]
    exact ⟨hb.2.1, hb.2.2.1⟩
theorem actA_same {S : List Stm} (h : Ord10 S) (gone : List Int) (tm : Int) : ∀ i, i ≤ (vouchesS S).length → actA (vouchesS S) gone tm i = activeUp (vouchesS S) gone tm i
  | 0, _ => rfl
  | i + 1, hi => by
    show actA (vouchesS S) gone tm i ++ (if keepA (vouchesS S) gone tm i then [(vouchesS S).getD i noVou] else []) = activeUp (vouchesS S) gone tm i ++ (if keepV (vouchesS S) gone tm i then [(vouchesS S).getD i noVou] else [])
    rw [actA_same h gone tm i (by omega)]
    congr 1
    have : keepA (vouchesS S) gone tm i = keepV (vouchesS S) gone tm i := by
      unfold keepA keepV holdsV
      rw [run_later h tm i (by omega)]
      generalize decide (((vouchesS S).getD i noVou).tm ≤ tm) = a
      generalize decide (tm < ((vouchesS S).getD i noVou).en) = b
      generalize (decide (((vouchesS S).getD i noVou).rv = -1) || decide (tm < ((vouchesS S).getD i noVou).rv)) = c
      generalize laterB (vouchesS S) tm i = d
      generalize hasI gone ((vouchesS S).getD i noVou).fr = e
      generalize hasI gone ((vouchesS S).getD i noVou).tu = f
      revert a b c d e f
      decide
    rw [this]
end Go.Proofs.YtnmpbjgccbnomaaGreat
/- The walk of vouch's compare, and its order. -/
namespace Go.Proofs.YtnmpbjgccbnomaaGreat
open Go.RowKit
/-- The order of vouches: less than 0, 0, or more. -/
def cmpVo (a b : Vou) : Int := firstNZ [Lib.compareInt a.fr b.fr, Lib.compareInt a.tu b.tu, Lib.compareInt a.nu b.nu]
theorem compareInt_three (x y : Int) : (x < y ∧ Lib.compareInt x y = -1) ∨ (x = y ∧ Lib.compareInt x y = 0) ∨ (y < x ∧ Lib.compareInt x y = 1) := by
  unfold Lib.compareInt
  (repeat' split) <;> omega
theorem cmpVo_iff (a b : Vou) : cmpVo a b < 0 ↔ ltV a b := by
  unfold cmpVo firstNZ firstNZ firstNZ firstNZ ltV
  rcases compareInt_three a.fr b.fr with ⟨h, e⟩ | ⟨h, e⟩ | ⟨h, e⟩
  · rw [e, if_neg (by decide)]; omega
  · rw [e, if_pos rfl]
    rcases compareInt_three a.tu b.tu with ⟨k, f⟩ | ⟨k, f⟩ | ⟨k, f⟩
    · rw [f, if_neg (by decide)]; omega
    · rw [f, if_pos rfl]
      rcases compareInt_three a.nu b.nu with ⟨r, g⟩ | ⟨r, g⟩ | ⟨r, g⟩
      · rw [g, if_neg (by decide)]; omega
      · rw [g, if_pos rfl]; omega
      · rw [g, if_neg (by decide)]; omega
    · rw [f, if_neg (by decide)]; omega
  · rw [e, if_neg (by decide)]; omega
theorem vou_cells7 {w : World} {g : Nat} {p : Vou} {t : TypeId} {fr : Nat × Nat} (h : w.heap[g]? = some (.cells p.arr t fr)) :
    w.cell? ⟨g, 0, none⟩ = some (.int .i64 p.fr) ∧ w.cell? ⟨g, 1, none⟩ = some (.int .i64 p.tu) ∧ w.cell? ⟨g, 2, none⟩ = some (.int .i64 p.lv) ∧ w.cell? ⟨g, 3, none⟩ = some (.int .i64 p.nu) ∧ w.cell? ⟨g, 4, none⟩ = some (.int .i64 p.tm) ∧ w.cell? ⟨g, 5, none⟩ = some (.int .i64 p.en) ∧ w.cell? ⟨g, 6, none⟩ = some (.int .i64 p.rv) :=
  ⟨(cell_of_row _ _ 0 _ _ _ h).trans rfl, (cell_of_row _ _ 1 _ _ _ h).trans rfl, (cell_of_row _ _ 2 _ _ _ h).trans rfl, (cell_of_row _ _ 3 _ _ _ h).trans rfl, (cell_of_row _ _ 4 _ _ _ h).trans rfl, (cell_of_row _ _ 5 _ _ _ h).trans rfl, (cell_of_row _ _ 6 _ _ _ h).trans rfl⟩
theorem vou_futs {F : World → World → Prop} (hr : ∀ w, F w w) {W : World} {g : Nat} {p : Vou} {t : TypeId} {fr : Nat × Nat} (hF : ∀ w', F W w' → w'.heap[g]? = W.heap[g]?) (h : W.heap[g]? = some (.cells p.arr t fr)) :
    (∀ x, (fut F W x).cell? ⟨g, 0, none⟩ = some (.int .i64 p.fr)) ∧ (∀ x, (fut F W x).cell? ⟨g, 1, none⟩ = some (.int .i64 p.tu)) ∧ (∀ x, (fut F W x).cell? ⟨g, 2, none⟩ = some (.int .i64 p.lv)) ∧ (∀ x, (fut F W x).cell? ⟨g, 3, none⟩ = some (.int .i64 p.nu)) ∧ (∀ x, (fut F W x).cell? ⟨g, 4, none⟩ = some (.int .i64 p.tm)) ∧ (∀ x, (fut F W x).cell? ⟨g, 5, none⟩ = some (.int .i64 p.en)) ∧ (∀ x, (fut F W x).cell? ⟨g, 6, none⟩ = some (.int .i64 p.rv)) := by
  have h2 := fun x => vou_cells7 ((hF _ (fut_ok hr W x)).trans h)
  exact ⟨fun x => (h2 x).1, fun x => (h2 x).2.1, fun x => (h2 x).2.2.1, fun x => (h2 x).2.2.2.1, fun x => (h2 x).2.2.2.2.1, fun x => (h2 x).2.2.2.2.2.1, fun x => (h2 x).2.2.2.2.2.2⟩
set_option maxRecDepth 100000 in
set_option maxHeartbeats 1000000 in
theorem compareV_any (p q : Vou) (w : World) : Calls Tryz.prog 81 #[.agg p.arr, .agg q.arr] w fun e w' => e = .returned (.int .i64 (cmpVo p q)) ∧ Laid w w' := by
  have HB : Hid (Laid w (((w.alloc (.cells p.arr 67)).alloc (.cells q.arr 67)).drew)) := Lib.hid (((Laid.alloc w _).trans (Laid.alloc _ _)).trans (Laid.drew _))
  have HX : Hid ((((w.alloc (.cells p.arr 67)).alloc (.cells q.arr 67)).drew).heap[w.heap.size]? = some (.cells p.arr 67 (0, 0))) := Lib.hid ((Below.heap_alloc _ _ _ (by simp)).trans (heap_alloc_new _ _))
  have HY : Hid ((((w.alloc (.cells p.arr 67)).alloc (.cells q.arr 67)).drew).heap[w.heap.size + 1]? = some (.cells q.arr 67 (0, 0))) := Lib.hid (heap_alloc2_new _ _ _)
  unfold cmpVo
  go_enter Tryz.func81, Tryz.ntmps81
  go_wp2_with fail
  refine wp_region_grow (by kernel_rfl) Laid Laid.refl (fun _ _ _ => Laid.trans) [17] [([0, 1, 2, 3, 5, 6, 7, 8, 10, 11, 12, 13], 4), ([], 9), ([], 14), ([], 15), ([], 16)] (by kernel_rfl) (by kernel_rfl) (by kernel_rfl) ?_
  simp only [List.map_cons, List.map_nil, pick, List.getD_cons_zero, List.getD_cons_succ]
  generalize (((w.alloc (.cells p.arr 67)).alloc (.cells q.arr 67)).drew) = w1 at HB HX HY ⊢
  have hlx : w.heap.size < w1.heap.size := (Array.getElem?_eq_some_iff.1 HX.out).1
  have hly : w.heap.size + 1 < w1.heap.size := (Array.getElem?_eq_some_iff.1 HY.out).1
  obtain ⟨hf0, hf1, hf2, hf3, hf4, hf5, hf6⟩ := vou_futs (F := Laid) Laid.refl (p := p) (W := w1) (fun w' h => h.1.block _ hlx) HX.out
  obtain ⟨hg0, hg1, hg2, hg3, hg4, hg5, hg6⟩ := vou_futs (F := Laid) Laid.refl (p := q) (W := w1) (fun w' h => h.1.block _ hly) HY.out
  obtain ⟨x0, x1, x2, x3, x4, x5, x6⟩ := p
  obtain ⟨y0, y1, y2, y3, y4, y5, y6⟩ := q
  simp only at hf0 hf1 hf2 hf3 hf4 hf5 hf6 hg0 hg1 hg2 hg3 hg4 hg5 hg6 ⊢
  refine wpGrow_cons ?_
  repeat (go_big_quiet_step (fail))
  refine wpQuiet_nil ?_
  clear hf0 hf1 hf2 hf3 hf4 hf5 hf6 hg0 hg1 hg2 hg3 hg4 hg5 hg6 HX HY hlx hly
  go_wp2_with fail
  refine (cmpInt_any _ _ _).mono ?_
  rintro e w2 ⟨rfl, rfl⟩
  go_wp2_with fail
  refine pieceEnd_normal ⟨Laid.refl _, ?_⟩
  refine wpGrow_cons ?_
  refine wpQuiet_nil ?_
  go_wp2_with fail
  refine (cmpInt_any _ _ _).mono ?_
  rintro e w3 ⟨rfl, rfl⟩
  go_wp2_with fail
  refine pieceEnd_normal ⟨Laid.refl _, ?_⟩
  refine wpGrow_cons ?_
  refine wpQuiet_nil ?_
  go_wp2_with fail
  refine (cmpInt_any _ _ _).mono ?_
  rintro e w4 ⟨rfl, rfl⟩
  go_wp2_with fail
  refine pieceEnd_normal ⟨Laid.refl _, ?_⟩
  generalize hr1 : Lib.compareInt x0 y0 = r1
  generalize hr2 : Lib.compareInt x1 y1 = r2
  generalize hr3 : Lib.compareInt x3 y3 = r3
  have HR := Lib.hid (And.intro hr1 (And.intro hr2 hr3)); clear hr1 hr2 hr3
  refine wpGrow_cons ?_
  refine wpQuiet_nil ?_
  go_wp2_with fail
  refine pieceEnd_normal ⟨Laid.alloc _ _, ?_⟩
  have HI := Lib.hid (show IRow (w4.alloc (.cells #[.int .i64 r1, .int .i64 r2, .int .i64 r3] 3)) (some ⟨w4.heap.size, 0, none⟩) 3 3 [r1, r2, r3] from Row.of_block (heap_alloc_new _ _) rfl)
  have HB2 := Lib.hid (HB.out.trans (Laid.alloc w4 (.cells #[.int .i64 r1, .int .i64 r2, .int .i64 r3] 3)))
  refine wpGrow_cons ?_
  refine wpQuiet_nil ?_
  go_wp2_with fail
  refine (or_any _ _ _ _ _ HI.out (by omega)).mono ?_
  rintro e w5 ⟨rfl, rfl⟩
  go_wp2_with fail
  refine pieceEnd_normal ⟨Laid.refl _, ?_⟩
  refine wpGrow_nil ?_
  repeat (go_big_quiet_step (fail))
  refine wpQuiet_nil ?_
  go_wp2_with fail
  go_ret
  exact ⟨by rw [HR.out.1, HR.out.2.1, HR.out.2.2]; rfl, HB2.out⟩
end Go.Proofs.YtnmpbjgccbnomaaGreat
/- The walks of vouch's holds and of slices.Contains over numbers. -/
namespace Go.Proofs.YtnmpbjgccbnomaaGreat
open Go.RowKit
set_option maxRecDepth 100000 in
set_option maxHeartbeats 4000000 in
theorem vHolds_any (p : Vou) (tm : Int) (w : World) : Calls Tryz.prog 52 #[.agg p.arr, .int .i64 tm] w (SaysL (.bool (holdsV p tm)) w) := by
  have HN := Lib.hid (one_new w (.cells p.arr 67))
  have HX : Hid ((w.alloc (.cells p.arr 67)).heap[w.heap.size]? = some (.cells p.arr 67 (0, 0))) := Lib.hid (heap_alloc_new _ _)
  have HV : Hid (holdsV p tm = (decide (p.tm ≤ tm) && (decide (tm < p.en) && (decide (p.rv = -1) || decide (tm < p.rv))))) := Lib.hid rfl
  generalize holdsV p tm = hb at *
  go_enter Tryz.func52, Tryz.ntmps52
  go_upto_region 1 with fail
  generalize w.alloc (.cells p.arr 67) = y at *
  obtain ⟨-, -, -, -, hc4, hc5, hc6⟩ := vou_cells7 HX.out
  by_cases k0 : p.tm ≤ tm
  · have b0 : decide (p.tm ≤ tm) = true := decide_eq_true k0
    have K0 := Lib.hid b0; clear k0
    by_cases k1 : tm < p.en
    · have b1 : decide (tm < p.en) = true := decide_eq_true k1
      have K1 := Lib.hid b1; clear k1
      by_cases k2 : p.rv = -1
      · have b2 : (p.rv == -1) = true := by rw [k2]; rfl
        have HE : Hid (hb = true) := Lib.hid (by rw [HV.out, K0.out, K1.out, decide_eq_true k2]; rfl)
        clear k2
        go_wp2_with fail
        go_ret
        exact ⟨by rw [HE.out]; rfl, HN.out⟩
      · have b2 : (p.rv == -1) = false := by rw [beq_eq_false_iff_ne]; exact k2
        have K2 : Hid (decide (p.rv = -1) = false) := Lib.hid (decide_eq_false k2)
        clear k2
        by_cases k3 : tm < p.rv
        · have b3 : decide (tm < p.rv) = true := decide_eq_true k3
          have K3 := Lib.hid b3; clear k3
          have HE : Hid (hb = true) := Lib.hid (by rw [HV.out, K0.out, K1.out, K2.out, K3.out]; rfl)
          go_wp2_with fail
          go_ret
          exact ⟨by rw [HE.out]; rfl, HN.out⟩
        · have b3 : decide (tm < p.rv) = false := decide_eq_false k3
          have K3 := Lib.hid b3; clear k3
          have HE : Hid (hb = false) := Lib.hid (by rw [HV.out, K0.out, K1.out, K2.out, K3.out]; rfl)
          go_wp2_with fail
          go_ret
          exact ⟨by rw [HE.out]; rfl, HN.out⟩
    · have b1 : decide (tm < p.en) = false := decide_eq_false k1
      have K1 := Lib.hid b1; clear k1
      have HE : Hid (hb = false) := Lib.hid (by rw [HV.out, K0.out, K1.out]; rfl)
      go_wp2_with fail
      go_ret
      exact ⟨by rw [HE.out]; rfl, HN.out⟩
  · have b0 : decide (p.tm ≤ tm) = false := decide_eq_false k0
    have K0 := Lib.hid b0; clear k0
    have HE : Hid (hb = false) := Lib.hid (by rw [HV.out, K0.out]; rfl)
    go_wp2_with fail
    go_ret
    exact ⟨by rw [HE.out]; rfl, HN.out⟩
set_option maxRecDepth 100000 in
set_option maxHeartbeats 4000000 in
theorem indexI_any (A : Option Addr) (n c : Nat) (l : List Int) (x : Int) (w : World) (hl : IRow w A n c l) (hn : n ≤ 100000) : Calls Tryz.prog 82 #[.slice A n c, .int .i64 x] w fun e w' => (∃ r : Int, e = .returned (.int .i64 r) ∧ decide (0 ≤ r) = hasI l x) ∧ Below w.heap.size w w' := by
  have HL := Lib.hid hl; have HLN : Hid (l.length = n) := Lib.hid hl.len
  clear hl
  go_enter Tryz.func82, Tryz.ntmps82
  go_wp2_with fail
  go_loopw [8] (fun i wr => ∃ j : Nat, j ≤ n ∧ i = .int .i64 j ∧ Hid (hasI (l.drop j) x = hasI l x ∧ Below w.heap.size w wr)) (fun i _ => n - (intOf i).toNat)
  case atStart => exact ⟨0, Nat.zero_le _, rfl, Lib.hid ⟨rfl, Below.refl _ _⟩⟩
  case round =>
    obtain ⟨j, hj, rfl, HQ⟩ := hrel
    by_cases hlt : j < n
    · have hlt2 : (j : Int) < (n : Int) := by omega
      obtain ⟨b, off, hA, hc⟩ := IRow.cell (HL.out.later HQ.out.2) j hlt
      subst hA
      have HD : Hid (hasI (l.drop j) x = if l.getD j 0 = x then true else hasI (l.drop (j + 1)) x) := Lib.hid (by
        rw [List.drop_eq_getElem_cons (by rw [HLN.out]; exact hlt), hasI, List.getD_eq_getElem?_getD, List.getElem?_eq_getElem (by rw [HLN.out]; exact hlt)]; rfl)
      generalize l.getD j 0 = a at *
      by_cases hax : x = a
      · have b0 : (x == a) = true := by rw [hax]; simp
        have HT : Hid (hasI l x = true) := Lib.hid (by rw [← HQ.out.1, HD.out, if_pos hax.symm])
        clear hax
        go_wp2_with fail
        go_ret
        exact ⟨⟨_, rfl, by rw [HT.out]; exact decide_eq_true (by omega)⟩, HQ.out.2⟩
      · have b0 : (x == a) = false := by rw [beq_eq_false_iff_ne]; exact hax
        have HT : Hid (hasI (l.drop (j + 1)) x = hasI l x) := Lib.hid (by rw [← HQ.out.1, HD.out, if_neg (fun q => hax q.symm)])
        clear hax
        go_wp2_with fail
        exact ⟨⟨j + 1, hlt, by go_num, Lib.hid ⟨HT.out, HQ.out.2⟩⟩, by simp [intOf]; omega⟩
    · have hlt2 : ¬ (j : Int) < (n : Int) := by omega
      have HT : Hid (hasI l x = false) := Lib.hid (by rw [← HQ.out.1, List.drop_eq_nil_of_le (by rw [HLN.out]; omega)]; rfl)
      go_wp2_with fail
      go_ret
      exact ⟨⟨_, rfl, by rw [HT.out]; decide⟩, HQ.out.2⟩
set_option maxRecDepth 100000 in
theorem containsI_any (A : Option Addr) (n c : Nat) (l : List Int) (x : Int) (w : World) (hl : IRow w A n c l) (hn : n ≤ 100000) : Calls Tryz.prog 53 #[.slice A n c, .int .i64 x] w (SaysL (.bool (hasI l x)) w) := by
  have HI := Lib.hid (indexI_any A n c l x w hl hn)
  clear hl
  go_enter Tryz.func53, Tryz.ntmps53
  go_wp2_with fail
  refine HI.out.mono ?_
  rintro e w1 ⟨⟨r, rfl, hr⟩, hb⟩
  have HR : Hid (decide (r ≥ 0) = hasI l x) := Lib.hid hr
  have HB := Lib.hid hb
  clear hr hb HI
  go_wp2_with fail
  go_ret
  exact ⟨by rw [← HR.out]; rfl, HB.out⟩
end Go.Proofs.YtnmpbjgccbnomaaGreat
/- The walks of graph's isLevel, isKey, isEnd, joins. -/
namespace Go.Proofs.YtnmpbjgccbnomaaGreat
open Go.RowKit
set_option maxRecDepth 100000 in
set_option maxHeartbeats 4000000 in
theorem levGr_any (x : Int) (w : World) : Calls Tryz.prog 27 #[.int .i64 x] w fun e w' => e = .returned (.bool (decide (1 ≤ x) && decide (x ≤ 3))) ∧ w' = w := by
  go_enter Tryz.func27, Tryz.ntmps27
  by_cases h1 : 1 ≤ x
  · have d1 : decide (1 ≤ x) = true := decide_eq_true h1
    rw [d1]
    clear h1
    by_cases h2 : x ≤ 3
    · have d2 : decide (x ≤ 3) = true := decide_eq_true h2
      rw [d2]
      clear h2
      go_wp2_with fail
      go_ret
      exact ⟨rfl, rfl⟩
    · have d2 : decide (x ≤ 3) = false := decide_eq_false h2
      rw [d2]
      clear h2
      go_wp2_with fail
      go_ret
      exact ⟨rfl, rfl⟩
  · have d1 : decide (1 ≤ x) = false := decide_eq_false h1
    rw [d1]
    clear h1
    go_wp2_with fail
    go_ret
    exact ⟨rfl, rfl⟩
set_option maxRecDepth 100000 in
set_option maxHeartbeats 4000000 in
theorem keyGr_any (G : Gr) (A : Option Addr) (n c : Nat) (B : Option Addr) (m k : Nat) (x : Int) (w : World) : Calls Tryz.prog 57 #[.agg #[.int .i64 G.sz, .slice A n c, .slice B m k], .int .i64 x] w (SaysL (.bool (keyB G.sz x)) w) := by
  have HN := Lib.hid (one_new w (.cells #[.int .i64 G.sz, .slice A n c, .slice B m k] 35))
  have HX : Hid ((w.alloc (.cells #[.int .i64 G.sz, .slice A n c, .slice B m k] 35)).heap[w.heap.size]? = some (.cells #[.int .i64 G.sz, .slice A n c, .slice B m k] 35 (0, 0))) := Lib.hid (heap_alloc_new _ _)
  have HV : Hid (keyB G.sz x = (decide (0 ≤ x) && decide (x < G.sz))) := Lib.hid rfl
  generalize keyB G.sz x = kb at *
  go_enter Tryz.func57, Tryz.ntmps57
  go_upto_region 1 with fail
  generalize w.alloc (.cells #[.int .i64 G.sz, .slice A n c, .slice B m k] 35) = y at *
  have hc0 : y.cell? ⟨w.heap.size, 0, none⟩ = some (.int .i64 G.sz) := (cell_of_row _ _ 0 _ _ _ HX.out).trans rfl
  by_cases h1 : 0 ≤ x
  · have d1 : decide (0 ≤ x) = true := decide_eq_true h1
    have D1 := Lib.hid d1
    clear h1
    by_cases h2 : x < G.sz
    · have d2 : decide (x < G.sz) = true := decide_eq_true h2
      have HE : Hid (kb = true) := Lib.hid (by rw [HV.out, d1, d2]; rfl)
      clear h2
      go_wp2_with fail
      go_ret
      exact ⟨by rw [HE.out]; rfl, HN.out⟩
    · have d2 : decide (x < G.sz) = false := decide_eq_false h2
      have HE : Hid (kb = false) := Lib.hid (by rw [HV.out, d1, d2]; rfl)
      clear h2
      go_wp2_with fail
      go_ret
      exact ⟨by rw [HE.out]; rfl, HN.out⟩
  · have d1 : decide (0 ≤ x) = false := decide_eq_false h1
    have HE : Hid (kb = false) := Lib.hid (by rw [HV.out, d1]; rfl)
    clear h1
    go_wp2_with fail
    go_ret
    exact ⟨by rw [HE.out]; rfl, HN.out⟩
def endB (G : Gr) (x : Int) : Bool := keyB G.sz x && !hasI G.gn x
set_option maxRecDepth 100000 in
set_option maxHeartbeats 4000000 in
theorem endGr_any (G : Gr) (A : Option Addr) (n c : Nat) (B : Option Addr) (m k : Nat) (x : Int) (w : World) (h2 : IRow w B m k G.gn) (hm : m ≤ 100000) : Calls Tryz.prog 58 #[.agg #[.int .i64 G.sz, .slice A n c, .slice B m k], .int .i64 x] w (SaysL (.bool (endB G x)) w) := by
  have HN := Lib.hid (one_new w (.cells #[.int .i64 G.sz, .slice A n c, .slice B m k] 35))
  have HX : Hid ((w.alloc (.cells #[.int .i64 G.sz, .slice A n c, .slice B m k] 35)).heap[w.heap.size]? = some (.cells #[.int .i64 G.sz, .slice A n c, .slice B m k] 35 (0, 0))) := Lib.hid (heap_alloc_new _ _)
  have H2 := Lib.hid (h2.later HN.out)
  have HV : Hid (endB G x = (keyB G.sz x && !hasI G.gn x)) := Lib.hid rfl
  generalize endB G x = kb at *
  clear h2
  go_enter Tryz.func58, Tryz.ntmps58
  go_upto_region 1 with fail
  generalize w.alloc (.cells #[.int .i64 G.sz, .slice A n c, .slice B m k] 35) = y at *
  have HK := Lib.hid (keyGr_any G A n c B m k x y)
  have HC : Hid (∀ z, Below y.heap.size y z → Calls Tryz.prog 53 #[.slice B m k, .int .i64 x] z (SaysL (.bool (hasI G.gn x)) z)) := Lib.hid fun z h => containsI_any B m k G.gn x z (H2.out.later h) hm
  generalize keyB G.sz x = kk at *
  generalize hasI G.gn x = hi at *
  go_wp2_with (refine wpList_load_row rfl 35 (.tmp 2) rfl w.heap.size rfl 35 #[.int .i64 G.sz, .slice A n c, .slice B m k] (0, 0) _ HX.out Tryz.underlying35 rfl gr_size ?_)
  refine HK.out.mono ?_
  rintro e w1 ⟨rfl, hb⟩
  have HX1 := Lib.hid ((hb.block _ (Array.getElem?_eq_some_iff.1 HX.out).1).trans HX.out)
  have HB := Lib.hid (HN.out.trans (hb.mono HN.out.size))
  have HC1 := Lib.hid (HC.out w1 hb)
  clear hb HK HX HC
  have hc2 : w1.cell? ⟨w.heap.size, 2, none⟩ = some (.slice B m k) := (cell_of_row _ _ 2 _ _ _ HX1.out).trans rfl
  cases kk
  · have HE : Hid (kb = false) := Lib.hid (by rw [HV.out]; rfl)
    go_wp2_with fail
    go_ret
    exact ⟨by rw [HE.out]; rfl, HB.out⟩
  · have HE : Hid (kb = !hi) := Lib.hid (by rw [HV.out]; rfl)
    go_wp2_with fail
    refine HC1.out.mono ?_
    rintro e w2 ⟨rfl, hb⟩
    have HB2 := Lib.hid (HB.out.trans (hb.mono HB.out.size))
    clear hb HC1 hc2
    go_wp2_with fail
    go_ret
    exact ⟨by rw [HE.out]; rfl, HB2.out⟩
theorem joinsGr_eq (G : Gr) (e : Edg) : (endsB G.sz e && freeB G.gn e) = (endB G e.fr && (endB G e.tu && (e.fr != e.tu))) := by
  unfold endsB freeB endB
  rw [show (!decide (e.fr = e.tu)) = (e.fr != e.tu) by by_cases h : e.fr = e.tu <;> simp [h]]
  cases keyB G.sz e.fr <;> cases keyB G.sz e.tu <;> cases hasI G.gn e.fr <;> cases hasI G.gn e.tu <;> cases (e.fr != e.tu) <;> rfl
set_option maxRecDepth 100000 in
set_option maxHeartbeats 4000000 in
theorem joinsGr_any (G : Gr) (A : Option Addr) (n c : Nat) (B : Option Addr) (m k : Nat) (e : Edg) (w : World) (h2 : IRow w B m k G.gn) (hm : m ≤ 100000) : Calls Tryz.prog 37 #[.agg #[.int .i64 G.sz, .slice A n c, .slice B m k], .agg e.arr] w (SaysL (.bool (endsB G.sz e && freeB G.gn e)) w) := by
  have HV : Hid ((endsB G.sz e && freeB G.gn e) = (endB G e.fr && (endB G e.tu && (e.fr != e.tu)))) := Lib.hid (joinsGr_eq G e)
  generalize (endsB G.sz e && freeB G.gn e) = kb at *
  have HN : Hid (Below w.heap.size w ((w.alloc (.cells #[.int .i64 G.sz, .slice A n c, .slice B m k] 35)).alloc (.cells e.arr 53))) := Lib.hid ((one_new w _).trans ((one_new _ _).mono (by simp)))
  have HX : Hid (((w.alloc (.cells #[.int .i64 G.sz, .slice A n c, .slice B m k] 35)).alloc (.cells e.arr 53)).heap[w.heap.size]? = some (.cells #[.int .i64 G.sz, .slice A n c, .slice B m k] 35 (0, 0))) := Lib.hid ((Below.heap_alloc _ _ _ (by simp)).trans (heap_alloc_new _ _))
  have HY : Hid (((w.alloc (.cells #[.int .i64 G.sz, .slice A n c, .slice B m k] 35)).alloc (.cells e.arr 53)).heap[w.heap.size + 1]? = some (.cells e.arr 53 (0, 0))) := Lib.hid (heap_alloc2_new _ _ _)
  have HC : Hid (∀ z x, Below w.heap.size w z → Calls Tryz.prog 58 #[.agg #[.int .i64 G.sz, .slice A n c, .slice B m k], .int .i64 x] z (SaysL (.bool (endB G x)) z)) := Lib.hid fun z x h => endGr_any G A n c B m k x z (h2.later h) hm
  clear h2
  go_enter Tryz.func37, Tryz.ntmps37
  go_upto_region 1 with fail
  generalize ((w.alloc (.cells #[.int .i64 G.sz, .slice A n c, .slice B m k] 35)).alloc (.cells e.arr 53)) = y at *
  have HC1 := Lib.hid (HC.out y e.fr HN.out)
  have HC2 : Hid (∀ z, Below y.heap.size y z → Calls Tryz.prog 58 #[.agg #[.int .i64 G.sz, .slice A n c, .slice B m k], .int .i64 e.tu] z (SaysL (.bool (endB G e.tu)) z)) := Lib.hid fun z h => HC.out z e.tu (HN.out.trans (h.mono HN.out.size))
  generalize endB G e.fr = k0 at *
  generalize endB G e.tu = k1 at *
  clear HC
  obtain ⟨hy0, hy1, -⟩ := edg_cells HY.out
  go_wp2_with (refine wpList_load_row rfl 35 (.tmp 2) rfl w.heap.size rfl 35 #[.int .i64 G.sz, .slice A n c, .slice B m k] (0, 0) _ HX.out Tryz.underlying35 rfl gr_size ?_)
  refine HC1.out.mono ?_
  rintro e1 w1 ⟨rfl, hb⟩
  have HX1 := Lib.hid ((hb.block _ (Array.getElem?_eq_some_iff.1 HX.out).1).trans HX.out)
  have HY1 := Lib.hid ((hb.block _ (Array.getElem?_eq_some_iff.1 HY.out).1).trans HY.out)
  have HB := Lib.hid (HN.out.trans (hb.mono HN.out.size))
  have HC3 := Lib.hid (HC2.out w1 hb)
  clear hb HC1 HX HC2 HY hy0 hy1
  cases k0
  · have HE : Hid (kb = false) := Lib.hid (by rw [HV.out]; rfl)
    go_wp2_with fail
    go_ret
    exact ⟨by rw [HE.out]; rfl, HB.out⟩
  · obtain ⟨hy0, hy1, -⟩ := edg_cells HY1.out
    go_wp2_with (refine wpList_load_rowG rfl 35 (.tmp 2) rfl w.heap.size rfl 35 #[.int .i64 G.sz, .slice A n c, .slice B m k] (0, 0) _ HX1.out Tryz.underlying35 rfl gr_size ?_)
    refine HC3.out.mono ?_
    rintro e1 w2 ⟨rfl, hb⟩
    have HY2 := Lib.hid ((hb.block _ (Array.getElem?_eq_some_iff.1 HY1.out).1).trans HY1.out)
    have HB2 := Lib.hid (HB.out.trans (hb.mono HB.out.size))
    clear hb HC3 HX1 HY1 hy0 hy1
    cases k1
    · have HE : Hid (kb = false) := Lib.hid (by rw [HV.out]; rfl)
      go_wp2_with fail
      go_ret
      exact ⟨by rw [HE.out]; rfl, HB2.out⟩
    · have HE : Hid (kb = (e.fr != e.tu)) := Lib.hid (by rw [HV.out]; rfl)
      obtain ⟨hy0, hy1, -⟩ := edg_cells HY2.out
      generalize e.fr = x0 at *
      generalize e.tu = x1 at *
      go_wp2_with fail
      go_ret
      exact ⟨by rw [HE.out]; rfl, HB2.out⟩
end Go.Proofs.YtnmpbjgccbnomaaGreat
/- The walk of graph's areKeys. -/
namespace Go.Proofs.YtnmpbjgccbnomaaGreat
open Go.RowKit
set_option maxRecDepth 100000 in
set_option maxHeartbeats 4000000 in
theorem keysGr_any (G : Gr) (A : Option Addr) (n c : Nat) (B : Option Addr) (m k : Nat) (A2 : Option Addr) (n2 c2 : Nat) (l : List Int) (w : World) (hl : IRow w A2 n2 c2 l) (hn : n2 ≤ 100000) : Calls Tryz.prog 36 #[.agg #[.int .i64 G.sz, .slice A n c, .slice B m k], .slice A2 n2 c2] w (SaysL (.bool (setB l G.sz)) w) := by
  have HN := Lib.hid (one_new w (.cells #[.int .i64 G.sz, .slice A n c, .slice B m k] 35))
  have HX : Hid ((w.alloc (.cells #[.int .i64 G.sz, .slice A n c, .slice B m k] 35)).heap[w.heap.size]? = some (.cells #[.int .i64 G.sz, .slice A n c, .slice B m k] 35 (0, 0))) := Lib.hid (heap_alloc_new _ _)
  have HL := Lib.hid (hl.later HN.out); have HLN : Hid (l.length = n2) := Lib.hid hl.len
  have HBAD : Hid (∀ i, i < n2 → okSet l G.sz i = false → setB l G.sz = false) := Lib.hid fun i hi h => setB_no (by rw [HLN.out]; exact hi) h
  have HGOOD : Hid ((∀ i, i < n2 → okSet l G.sz i = true) → setB l G.sz = true) := Lib.hid fun h => setB_yes fun i hi => h i (by rw [← HLN.out]; exact hi)
  have HOK : Hid (∀ i, okSet l G.sz i = (keyB G.sz (l.getD i 0) && (decide (i = 0) || decide (l.getD (i - 1) 0 < l.getD i 0)))) := Lib.hid fun i => by
    unfold okSet keyB
    rw [Bool.and_assoc]
  generalize setB l G.sz = sb at *
  clear hl
  go_enter Tryz.func36, Tryz.ntmps36
  go_upto_region 1 with fail
  generalize w.alloc (.cells #[.int .i64 G.sz, .slice A n c, .slice B m k] 35) = y at *
  have HKY : Hid (∀ z x, Calls Tryz.prog 57 #[.agg #[.int .i64 G.sz, .slice A n c, .slice B m k], .int .i64 x] z (SaysL (.bool (keyB G.sz x)) z)) := Lib.hid fun z x => keyGr_any G A n c B m k x z
  go_wp2_with fail
  go_loopw [9] (fun i wr => ∃ j : Nat, j ≤ n2 ∧ i = .int .i64 j ∧ Hid ((∀ q, q < j → okSet l G.sz q = true) ∧ Below y.heap.size y wr)) (fun i _ => n2 - (intOf i).toNat)
  case atStart => exact ⟨0, Nat.zero_le _, rfl, Lib.hid ⟨fun q h => absurd h (Nat.not_lt_zero _), Below.refl _ _⟩⟩
  case round =>
    obtain ⟨j, hj, rfl, HQ⟩ := hrel
    have HX1 : Hid (wr.heap[w.heap.size]? = some (.cells #[.int .i64 G.sz, .slice A n c, .slice B m k] 35 (0, 0))) := Lib.hid ((HQ.out.2.block _ (Array.getElem?_eq_some_iff.1 HX.out).1).trans HX.out)
    by_cases hlt : j < n2
    · have hlt2 : (j : Int) < (n2 : Int) := by omega
      have HLR := Lib.hid (HL.out.later HQ.out.2)
      obtain ⟨b, off, hA, hc⟩ := IRow.cell HLR.out j hlt
      subst hA
      have HOJ := Lib.hid (HOK.out j)
      have HKJ := Lib.hid (HKY.out wr (l.getD j 0))
      generalize hlj : l.getD j 0 = a at *
      clear hlj
      go_upto_region 4 with fail
      clear hc
      go_wp2_with (refine wpList_load_row rfl 35 (.tmp 2) rfl w.heap.size rfl 35 #[.int .i64 G.sz, .slice A n c, .slice B m k] (0, 0) _ HX1.out Tryz.underlying35 rfl gr_size ?_)
      refine HKJ.out.mono ?_
      rintro e w1 ⟨rfl, hb⟩
      have HB1 := Lib.hid (HQ.out.2.trans (hb.mono HQ.out.2.size))
      have HK := Lib.hid HQ.out.1
      clear hb HKJ HQ HX1 HLR
      cases hkb : keyB G.sz a
      · have HE : Hid (sb = false) := Lib.hid (HBAD.out j hlt (by rw [HOJ.out, hkb]; rfl))
        clear hkb
        go_wp2_with fail
        go_ret
        exact ⟨by rw [HE.out]; rfl, HN.out.trans (HB1.out.mono HN.out.size)⟩
      · rw [hkb, Bool.true_and] at HOJ
        clear hkb
        by_cases hj0 : 0 < j
        · have e0 : decide ((j : Int) > 0) = true := decide_eq_true (by omega)
          have e0' : decide ((0 : Int) < (j : Int)) = true := e0
          have e1 : (0 : Int) ≤ (j : Int) - 1 := by omega
          have e2 : (j : Int) - 1 < (n2 : Int) := by omega
          have e3 : ((j : Int) - 1).toNat = j - 1 := by omega
          obtain ⟨b2, off2, hA2, hc⟩ := IRow.cell (HL.out.later HB1.out) (j - 1) (by omega)
          injection hA2 with hA2
          injection hA2 with i1 i2
          subst i1 i2
          rw [decide_eq_false (by omega : ¬ j = 0), Bool.false_or] at HOJ
          generalize l.getD (j - 1) 0 = a1 at *
          by_cases hlt3 : a1 < a
          · have d1 : decide (a1 ≥ a) = false := decide_eq_false (by omega)
            have d1' : decide (a ≤ a1) = false := d1
            have HT : Hid (okSet l G.sz j = true) := Lib.hid (by rw [HOJ.out]; exact decide_eq_true hlt3)
            clear hlt3
            go_wp2_with fail
            exact ⟨⟨j + 1, hlt, by go_num, Lib.hid ⟨fun q hq => (Nat.lt_or_ge q j).elim (fun h => HK.out q h) (fun h => by rw [show q = j by omega]; exact HT.out), HB1.out⟩⟩, by simp [intOf]; omega⟩
          · have d1 : decide (a1 ≥ a) = true := decide_eq_true (by omega)
            have d1' : decide (a ≤ a1) = true := d1
            have HE : Hid (sb = false) := Lib.hid (HBAD.out j hlt (by rw [HOJ.out]; exact decide_eq_false hlt3))
            clear hlt3
            go_wp2_with fail
            go_ret
            exact ⟨by rw [HE.out]; rfl, HN.out.trans (HB1.out.mono HN.out.size)⟩
        · have e0 : decide ((j : Int) > 0) = false := decide_eq_false (by omega)
          have e0' : decide ((0 : Int) < (j : Int)) = false := e0
          have HT : Hid (okSet l G.sz j = true) := Lib.hid (by rw [HOJ.out, decide_eq_true (by omega : j = 0)]; rfl)
          go_wp2_with fail
          exact ⟨⟨j + 1, hlt, by go_num, Lib.hid ⟨fun q hq => (Nat.lt_or_ge q j).elim (fun h => HK.out q h) (fun h => by rw [show q = j by omega]; exact HT.out), HB1.out⟩⟩, by simp [intOf]; omega⟩
    · have hlt2 : ¬ (j : Int) < (n2 : Int) := by omega
      have HE : Hid (sb = true) := Lib.hid (HGOOD.out fun q hq => HQ.out.1 q (by omega))
      have HB1 := Lib.hid HQ.out.2
      go_wp2_with fail
      go_ret
      exact ⟨by rw [HE.out]; rfl, HN.out.trans (HB1.out.mono HN.out.size)⟩
end Go.Proofs.YtnmpbjgccbnomaaGreat
