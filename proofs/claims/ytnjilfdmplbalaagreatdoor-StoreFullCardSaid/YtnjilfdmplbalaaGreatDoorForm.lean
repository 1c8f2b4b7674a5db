/- The walks of statement.inRange, hasForm, Check. -/
import Derived.Test.YtnjilfdmplbalaaGreatDoorPins
namespace Go.Proofs.YtnjilfdmplbalaaGreatDoor
open Go.RowKit
def listB' (l : List Int) : Bool := (List.range l.length).all fun i => isValueB (l.getD i 0)
/-- Whether all numbers are in their ranges. -/
def rangeB (s : Stm) : Bool := btw s.number 0 199 && isValueB s.a && isValueB s.b && isValueB s.c && listB' s.list && fitsB s
theorem IRow.cell {w : World} {A : Option Addr} {n c : Nat} {l : List Int} (h : IRow w A n c l) (k : Nat) (hk : k < n) : ∃ b off, A = some ⟨b, off, none⟩ ∧ w.cell? ⟨b, off + k, none⟩ = some (.int .i64 (l.getD k 0)) := by
  obtain ⟨b, off, hA, hc⟩ := Row.form h (by omega)
  have hl := h.len
  have := hc k (by omega)
  rw [intsV_get _ _ (by omega)] at this
  exact ⟨b, off, hA, this⟩
/-- The cells of a statement that lies in a block of its own. -/
theorem stm_cells {W : World} {g : Nat} {s : Stm} {A : Option Addr} {n c : Nat} {B : Option Addr} {m k : Nat} {t : TypeId} {fr : Nat × Nat}
    (h : W.heap[g]? = some (.cells #[.int .i64 s.author, .int .i64 s.number, .string s.prev, .int .i64 s.time, .int .i64 s.kind, .int .i64 s.a, .int .i64 s.b, .int .i64 s.c, .slice A n c, .slice B m k, .string s.body, .int .i64 s.key, .string s.dig] t fr)) :
    W.cell? ⟨g, 0, none⟩ = some (.int .i64 s.author) ∧ W.cell? ⟨g, 1, none⟩ = some (.int .i64 s.number) ∧ W.cell? ⟨g, 2, none⟩ = some (.string s.prev) ∧ W.cell? ⟨g, 3, none⟩ = some (.int .i64 s.time) ∧ W.cell? ⟨g, 4, none⟩ = some (.int .i64 s.kind) ∧ W.cell? ⟨g, 5, none⟩ = some (.int .i64 s.a) ∧ W.cell? ⟨g, 6, none⟩ = some (.int .i64 s.b) ∧ W.cell? ⟨g, 7, none⟩ = some (.int .i64 s.c) ∧ W.cell? ⟨g, 8, none⟩ = some (.slice A n c) ∧ W.cell? ⟨g, 9, none⟩ = some (.slice B m k) ∧ W.cell? ⟨g, 10, none⟩ = some (.string s.body) ∧ W.cell? ⟨g, 11, none⟩ = some (.int .i64 s.key) ∧ W.cell? ⟨g, 12, none⟩ = some (.string s.dig) := by
  refine ⟨?_, ?_, ?_, ?_, ?_, ?_, ?_, ?_, ?_, ?_, ?_, ?_, ?_⟩ <;> (rw [cell_of_row _ _ _ _ _ _ h]; rfl)
theorem box_below (w : World) (o : Obj) : Below w.heap.size w (w.alloc o) := one_new w o
set_option maxHeartbeats 1000000 in
theorem inRange_any (s : Stm) (A : Option Addr) (n c : Nat) (B : Option Addr) (m k : Nat) (w : World) (hl : IRow w A n c s.list) (hn : n ≤ 1000000) :
    Calls Tryz.prog 76 #[stmV s A n c B m k] w (SaysL (.bool (rangeB s)) w) := by
  have HL := Lib.hid hl; have HN := Lib.hid hl.len; clear hl
  obtain ⟨S, hS⟩ : ∃ S, S = s := ⟨_, rfl⟩
  have HS : Hid (rangeB s = (btw s.number 0 199 && isValueB s.a && isValueB s.b && isValueB s.c && listB' s.list && fitsB S)) := by subst hS; exact Lib.hid rfl
  have HF : ∀ w, Calls Tryz.prog 104 #[stmV s A n c B m k] w (SaysL (.bool (fitsB S)) w) := fun w => by subst hS; exact fitsKind_any _ _ _ _ _ _ _ w
  have HFF := Lib.hid HF; clear HF hS
  obtain ⟨author, number, prev, time, kind, a, b, cc, list, pins, body, key, dig⟩ := s
  unfold stmV at HFF ⊢
  simp only at HL HN HS HFF
  generalize rangeB _ = R at HS ⊢
  go_enter Tryz.func76, Tryz.ntmps76
  go_wp2_with fail
  refine (between_any _ _ _ _).mono ?_
  rintro e w1 ⟨rfl, rfl⟩
  cases g1 : btw number 0 199
  · go_wp2
    go_ret
    exact ⟨by rw [HS.out, g1]; rfl, one_new _ _⟩
  go_wp2_with fail
  refine (isValue_any _ _).mono ?_
  rintro e w1 ⟨rfl, rfl⟩
  cases g2 : isValueB a
  · go_wp2
    go_ret
    exact ⟨by rw [HS.out, g1, g2]; rfl, one_new _ _⟩
  go_wp2_with fail
  refine (isValue_any _ _).mono ?_
  rintro e w1 ⟨rfl, rfl⟩
  cases g3 : isValueB b
  · go_wp2
    go_ret
    exact ⟨by rw [HS.out, g1, g2, g3]; rfl, one_new _ _⟩
  go_wp2_with fail
  refine (isValue_any _ _).mono ?_
  rintro e w1 ⟨rfl, rfl⟩
  cases g4 : isValueB cc
  · go_wp2
    go_ret
    exact ⟨by rw [HS.out, g1, g2, g3, g4]; rfl, one_new _ _⟩
  have HS2 : Hid (R = (listB' list && fitsB S)) := by unfold Hid; rw [HS.out, g1, g2, g3, g4]; rfl
  clear HS g1 g2 g3 g4
  have HX := Lib.hid (HL.out.later (one_new w (.cells #[.int .i64 author, .int .i64 number, .string prev, .int .i64 time, .int .i64 kind, .int .i64 a, .int .i64 b, .int .i64 cc, .slice A n c, .slice B m k, .string body, .int .i64 key, .string dig] 30)))
  go_wp2
  go_loopw [30] (fun i wr => ∃ j : Nat, j ≤ n ∧ i = .int .i64 j ∧ wr = w.alloc (.cells #[.int .i64 author, .int .i64 number, .string prev, .int .i64 time, .int .i64 kind, .int .i64 a, .int .i64 b, .int .i64 cc, .slice A n c, .slice B m k, .string body, .int .i64 key, .string dig] 30) ∧ Hid ((List.range j).all (fun i => isValueB (list.getD i 0)) = true)) (fun i _ => n - (intOf i).toNat)
  case atStart => exact ⟨0, Nat.zero_le _, rfl, rfl, Lib.hid rfl⟩
  case round =>
    obtain ⟨j, hj, rfl, rfl, HQ⟩ := hrel
    by_cases hlt : j < n
    · obtain ⟨ab, off, hA, hc0⟩ := HX.out.cell j hlt
      subst hA
      have NO : Hid (isValueB (list.getD j 0) = false → listB' list = false) := Lib.hid fun h => by rw [listB', HN.out]; exact all_no hlt h
      have YES : Hid (isValueB (list.getD j 0) = true → (List.range (j + 1)).all (fun i => isValueB (list.getD i 0)) = true) := Lib.hid fun h => all_more HQ.out h
      clear HX
      generalize list.getD j 0 = x at hc0 NO YES
      go_wp2_with fail
      refine (isValue_any _ _).mono ?_
      rintro e w1 ⟨rfl, rfl⟩
      cases g1 : isValueB x
      · go_wp2
        go_ret
        exact ⟨by rw [HS2.out, NO.out g1]; rfl, one_new _ _⟩
      · go_wp2
        refine ⟨⟨j + 1, hlt, by go_num, by simp, Lib.hid (YES.out g1)⟩, by simp [intOf]; omega⟩
    · have HE : Hid (j = n) := by unfold Hid; omega
      have HS3 : Hid (R = fitsB S) := by unfold Hid; rw [HS2.out, listB', HN.out, ← HE.out, HQ.out]; rfl
      clear HX HS2
      go_wp2_with fail
      refine (HFF.out _).mono ?_
      rintro e w1 ⟨rfl, hb⟩
      go_wp2
      go_ret
      exact ⟨by rw [HS3.out]; rfl, (one_new w _).trans (hb.mono (by simp))⟩
/-- Whether Prev and the pins are as they have to be, and nothing is there that its kind does not have. -/
def formB (s : Stm) : Bool :=
  if isTrustB s.kind && decide (0 < s.list.length + s.pins.length + s.body.size) then false else prevB s && pinsB s.pins
set_option maxHeartbeats 1000000 in
theorem hasForm_any (s : Stm) (A : Option Addr) (n c : Nat) (B : Option Addr) (m k : Nat) (w : World) (hl : s.list.length = n) (hp : PRow w B m k s.pins) (hn : n ≤ 1000000) (hm : m ≤ 1000000) (hb : s.body.size ≤ 100000000) :
    Calls Tryz.prog 77 #[stmV s A n c B m k] w (SaysL (.bool (formB s)) w) := by
  have HP := Lib.hid hp; have HN := Lib.hid hl; have HM := Lib.hid hp.len; clear hl hp
  obtain ⟨S, hS⟩ : ∃ S, S = s := ⟨_, rfl⟩
  have HS : Hid (formB s = if isTrustB s.kind && decide (0 < n + m + s.body.size) then false else prevB S && pinsB s.pins) := by subst hS; unfold Hid formB; rw [HN.out, HM.out]
  have HF : ∀ w, Calls Tryz.prog 105 #[stmV s A n c B m k] w (SaysL (.bool (prevB S)) w) := fun w => by subst hS; exact hasPrev_any _ _ _ _ _ _ _ w
  have HFF := Lib.hid HF; clear HF hS HN HM
  obtain ⟨author, number, prev, time, kind, a, b, cc, list, pins, body, key, dig⟩ := s
  unfold stmV at HFF ⊢
  simp only at HP HS HFF hb
  generalize formB _ = R at HS ⊢
  go_enter Tryz.func77, Tryz.ntmps77
  go_wp2_with fail
  refine (isTrust_any _ _).mono ?_
  rintro e w1 ⟨rfl, rfl⟩
  cases g1 : isTrustB kind
  · have HS2 : Hid (R = (prevB S && pinsB pins)) := by unfold Hid; rw [HS.out, g1]; rfl
    clear HS
    go_wp2_with fail
    refine (HFF.out _).mono ?_
    rintro e w1 ⟨rfl, hb1⟩
    have HB1 := Lib.hid ((one_new w _).trans (hb1.mono (by simp))); have HC := Lib.hid ((hb1.block w.heap.size (by simp)).trans (heap_alloc_new _ _)); clear hb1
    cases g2 : prevB S
    · go_wp2
      go_ret
      exact ⟨by rw [HS2.out, g2]; rfl, HB1.out⟩
    have hc9 : w1.cell? ⟨w.heap.size, 9, none⟩ = some (.slice B m k) := by rw [cell_of_row _ _ _ _ _ _ HC.out]; rfl
    go_wp2_with fail
    refine (arePins_any B m k pins w1 (HP.out.later HB1.out) hm).mono ?_
    rintro e w2 ⟨rfl, hb2⟩
    go_wp2
    go_ret
    exact ⟨by rw [HS2.out, g2]; rfl, HB1.out.trans (hb2.mono HB1.out.size)⟩
  · by_cases g0 : 0 < n + m + body.size
    · have e0 : (0 : Int) < (n : Int) + (m : Int) + (body.size : Int) := by omega
      have HS2 : Hid (R = false) := by unfold Hid; rw [HS.out, g1, if_pos (by simpa using g0)]
      go_wp2
      go_ret
      exact ⟨by rw [HS2.out]; rfl, one_new _ _⟩
    · have e0 : ¬ (0 : Int) < (n : Int) + (m : Int) + (body.size : Int) := by omega
      have HS2 : Hid (R = (prevB S && pinsB pins)) := by unfold Hid; rw [HS.out, g1, if_neg (by simpa using g0)]
      clear HS
      go_wp2_with fail
      refine (HFF.out _).mono ?_
      rintro e w1 ⟨rfl, hb1⟩
      have HB1 := Lib.hid ((one_new w _).trans (hb1.mono (by simp))); have HC := Lib.hid ((hb1.block w.heap.size (by simp)).trans (heap_alloc_new _ _)); clear hb1
      cases g2 : prevB S
      · go_wp2
        go_ret
        exact ⟨by rw [HS2.out, g2]; rfl, HB1.out⟩
      have hc9 : w1.cell? ⟨w.heap.size, 9, none⟩ = some (.slice B m k) := by rw [cell_of_row _ _ _ _ _ _ HC.out]; rfl
      go_wp2_with fail
      refine (arePins_any B m k pins w1 (HP.out.later HB1.out) hm).mono ?_
      rintro e w2 ⟨rfl, hb2⟩
      go_wp2
      go_ret
      exact ⟨by rw [HS2.out, g2]; rfl, HB1.out.trans (hb2.mono HB1.out.size)⟩
/-- What Check returns. -/
def checkV (s : Stm) : Int :=
  if isKeyB s.author = false then 4 else if isKindB s.kind = false then 5 else if btw s.time 0 2147483648 = false then 9 else if rangeB s = false then 2
  else if 64 < s.list.length ∨ 64 < s.pins.length ∨ 4096 < s.body.size then 3 else if formB s = false then 1 else 0
set_option maxHeartbeats 1000000 in
theorem check_any (s : Stm) (A : Option Addr) (n c : Nat) (B : Option Addr) (m k : Nat) (w : World) (hl : IRow w A n c s.list) (hp : PRow w B m k s.pins) (hn : n ≤ 1000000) (hm : m ≤ 1000000) (hb : s.body.size ≤ 100000000) :
    Calls Tryz.prog 41 #[stmV s A n c B m k] w (SaysL (.int .i64 (checkV s)) w) := by
  have HL := Lib.hid hl; have HP := Lib.hid hp; have HN := Lib.hid hl.len; have HM := Lib.hid hp.len; clear hl hp
  obtain ⟨S, hS⟩ : ∃ S, S = s := ⟨_, rfl⟩
  have HS : Hid (checkV s = if isKeyB s.author = false then 4 else if isKindB s.kind = false then 5 else if btw s.time 0 2147483648 = false then 9 else if rangeB S = false then 2 else if 64 < n ∨ 64 < m ∨ 4096 < s.body.size then 3 else if formB S = false then 1 else 0) := by subst hS; unfold Hid checkV; rw [HN.out, HM.out]
  have HF1 : Hid (∀ w', Below w.heap.size w w' → Calls Tryz.prog 76 #[stmV s A n c B m k] w' (SaysL (.bool (rangeB S)) w')) := Lib.hid fun w' h => by subst hS; exact inRange_any _ _ _ _ _ _ _ w' (HL.out.later h) hn
  have HF2 : Hid (∀ w', Below w.heap.size w w' → Calls Tryz.prog 77 #[stmV s A n c B m k] w' (SaysL (.bool (formB S)) w')) := Lib.hid fun w' h => by subst hS; exact hasForm_any _ _ _ _ _ _ _ w' HN.out (HP.out.later h) hn hm hb
  clear hS HN HM HL HP
  obtain ⟨author, number, prev, time, kind, a, b, cc, list, pins, body, key, dig⟩ := s
  unfold stmV at HF1 HF2 ⊢
  simp only at HS HF1 HF2 hb
  generalize checkV _ = R at HS ⊢
  go_enter Tryz.func41, Tryz.ntmps41
  go_wp2_with fail
  refine (isKey_any _ _).mono ?_
  rintro e w1 ⟨rfl, rfl⟩
  cases g1 : isKeyB author
  · go_wp2
    go_ret
    exact ⟨by rw [HS.out, g1]; rfl, one_new _ _⟩
  go_wp2_with fail
  refine (isKind_any _ _).mono ?_
  rintro e w1 ⟨rfl, rfl⟩
  cases g2 : isKindB kind
  · go_wp2
    go_ret
    exact ⟨by rw [HS.out, g1, g2]; rfl, one_new _ _⟩
  go_wp2_with fail
  refine (between_any _ _ _ _).mono ?_
  rintro e w1 ⟨rfl, rfl⟩
  cases g3 : btw time 0 2147483648
  · go_wp2
    go_ret
    exact ⟨by rw [HS.out, g1, g2, g3]; rfl, one_new _ _⟩
  have HS2 : Hid (R = if rangeB S = false then 2 else if 64 < n ∨ 64 < m ∨ 4096 < body.size then 3 else if formB S = false then 1 else 0) := by unfold Hid; rw [HS.out, g1, g2, g3]; rfl
  clear HS g1 g2 g3
  go_wp2_with fail
  refine (HF1.out _ (one_new _ _)).mono ?_
  rintro e w1 ⟨rfl, hb1⟩
  have HB1 := Lib.hid ((one_new w _).trans (hb1.mono (by simp))); have HC := Lib.hid ((hb1.block w.heap.size (by simp)).trans (heap_alloc_new _ _)); clear hb1
  cases g1 : rangeB S
  · go_wp2
    go_ret
    exact ⟨by rw [HS2.out, g1]; rfl, HB1.out⟩
  obtain ⟨hc0, hc1, hc2, hc3, hc4, hc5, hc6, hc7, hc8, hc9, hc10, hc11, hc12⟩ := stm_cells (s := ⟨author, number, prev, time, kind, a, b, cc, list, pins, body, key, dig⟩) HC.out
  by_cases h1 : 64 < n
  · go_wp2
    go_ret
    exact ⟨by rw [HS2.out, g1, if_neg (by simp), if_pos (.inl h1)]; rfl, HB1.out⟩
  by_cases h2 : 64 < m
  · go_wp2
    go_ret
    exact ⟨by rw [HS2.out, g1, if_neg (by simp), if_pos (.inr (.inl h2))]; rfl, HB1.out⟩
  by_cases h3 : 4096 < body.size
  · go_wp2
    go_ret
    exact ⟨by rw [HS2.out, g1, if_neg (by simp), if_pos (.inr (.inr h3))]; rfl, HB1.out⟩
  have HS3 : Hid (R = if formB S = false then 1 else 0) := by unfold Hid; rw [HS2.out, g1, if_neg (by simp), if_neg (by omega)]
  clear HS2
  go_wp2_with fail
  refine (HF2.out _ HB1.out).mono ?_
  rintro e w2 ⟨rfl, hb2⟩
  cases g2 : formB S
  · go_wp2
    go_ret
    exact ⟨by rw [HS3.out, g2]; rfl, HB1.out.trans (hb2.mono HB1.out.size)⟩
  · go_wp2
    go_ret
    exact ⟨by rw [HS3.out, g2]; rfl, HB1.out.trans (hb2.mono HB1.out.size)⟩
end Go.Proofs.YtnjilfdmplbalaaGreatDoor
