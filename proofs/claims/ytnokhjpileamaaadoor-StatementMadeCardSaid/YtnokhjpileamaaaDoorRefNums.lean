/- The walks of the reference's numbers and Check. -/
import Derived.Test.YtnokhjpileamaaaDoorRefPins
namespace Go.Proofs.YtnokhjpileamaaaDoor
open Go.RowKit
set_option maxHeartbeats 2000000 in
theorem refNumbers_any (s : Stm) (A : Option Addr) (n c : Nat) (B : Option Addr) (m k : Nat) (w : World) (hl : IRow w A n c s.list) (hn : n ≤ 1000000) :
    Calls Tryd.prog 54 #[stmV s A n c B m k] w (SaysL (.bool (rangeB s)) w) := by
  have HL := Lib.hid hl; have HN := Lib.hid hl.len; clear hl
  obtain ⟨author, number, prev, time, kind, a, b, cc, list, pins, body, key, dig⟩ := s
  have HS : Hid (rangeB ⟨author, number, prev, time, kind, a, b, cc, list, pins, body, key, dig⟩ = (btw number 0 199 && isValueB a && isValueB b && isValueB cc && listB' list && (if kind = 1 then isKeyB a && (a != author) && btw b 1 3 && btw cc time 2147483648 else if kind = 2 then btw a 0 199 && (b == 0) && (cc == 0) else if kind = 3 then (a == 0) && (b == 0) && (cc == 0) else true))) := Lib.hid rfl
  unfold stmV
  simp only at HL HN
  generalize rangeB _ = R at HS ⊢
  go_enter Tryd.func54, Tryd.ntmps54
  go_wp2_with fail
  refine (refIn_any _ _ _).mono ?_
  rintro e w1 ⟨rfl, rfl⟩
  cases g1 : btw number 0 199
  · go_wp2
    go_ret
    exact ⟨by rw [HS.out, g1]; rfl, one_new _ _⟩
  go_wp2_with fail
  refine (refIn_any _ _ _).mono ?_
  rintro e w1 ⟨rfl, rfl⟩
  rw [show btw a 0 1099511627776 = isValueB a from rfl]
  cases g2 : isValueB a
  · go_wp2
    go_ret
    exact ⟨by rw [HS.out, g1, g2]; rfl, one_new _ _⟩
  go_wp2_with fail
  refine (refIn_any _ _ _).mono ?_
  rintro e w1 ⟨rfl, rfl⟩
  rw [show btw b 0 1099511627776 = isValueB b from rfl]
  cases g3 : isValueB b
  · go_wp2
    go_ret
    exact ⟨by rw [HS.out, g1, g2, g3]; rfl, one_new _ _⟩
  go_wp2_with fail
  refine (refIn_any _ _ _).mono ?_
  rintro e w1 ⟨rfl, rfl⟩
  rw [show btw cc 0 1099511627776 = isValueB cc from rfl]
  cases g4 : isValueB cc
  · go_wp2
    go_ret
    exact ⟨by rw [HS.out, g1, g2, g3, g4]; rfl, one_new _ _⟩
  have HS2 : Hid (R = (listB' list && (if kind = 1 then isKeyB a && (a != author) && btw b 1 3 && btw cc time 2147483648 else if kind = 2 then btw a 0 199 && (b == 0) && (cc == 0) else if kind = 3 then (a == 0) && (b == 0) && (cc == 0) else true))) := by unfold Hid; rw [HS.out, g1, g2, g3, g4]; rfl
  clear HS g1 g2 g3 g4
  have HX := Lib.hid (HL.out.later (one_new w (.cells #[.int .i64 author, .int .i64 number, .string prev, .int .i64 time, .int .i64 kind, .int .i64 a, .int .i64 b, .int .i64 cc, .slice A n c, .slice B m k, .string body, .int .i64 key, .string dig] 27)))
  go_wp2
  go_loopw [3] (fun i wr => ∃ j : Nat, j ≤ n ∧ i = .int .i64 j ∧ wr = w.alloc (.cells #[.int .i64 author, .int .i64 number, .string prev, .int .i64 time, .int .i64 kind, .int .i64 a, .int .i64 b, .int .i64 cc, .slice A n c, .slice B m k, .string body, .int .i64 key, .string dig] 27) ∧ Hid ((List.range j).all (fun i => isValueB (list.getD i 0)) = true)) (fun i _ => n - (intOf i).toNat)
  case atStart => exact ⟨0, Nat.zero_le _, rfl, rfl, Lib.hid rfl⟩
  case round =>
    obtain ⟨j, hj, rfl, rfl, HQ⟩ := hrel
    by_cases hlt : j < n
    · obtain ⟨ab, off, hA, hc0⟩ := HX.out.cell j hlt
      subst hA
      have NO : Hid (isValueB (list.getD j 0) = false → listB' list = false) := Lib.hid fun h => by rw [listB', HN.out]; exact all_no hlt h
      have YES : Hid (isValueB (list.getD j 0) = true → (List.range (j + 1)).all (fun i => isValueB (list.getD i 0)) = true) := Lib.hid fun h => all_more HQ.out h
      clear HX
      generalize list.getD j 0 = x at hc0 NO YES
      go_wp2_with fail
      refine (refIn_any _ _ _).mono ?_
      rintro e w1 ⟨rfl, rfl⟩
      rw [show btw x 0 1099511627776 = isValueB x from rfl]
      cases g1 : isValueB x
      · go_wp2
        go_ret
        exact ⟨by rw [HS2.out, NO.out g1]; rfl, one_new _ _⟩
      · go_wp2
        refine ⟨⟨j + 1, hlt, by go_num, by simp, Lib.hid (YES.out g1)⟩, by simp [intOf]; omega⟩
    · have HE : Hid (j = n) := by unfold Hid; omega
      have HS3 : Hid (R = (if kind = 1 then isKeyB a && (a != author) && btw b 1 3 && btw cc time 2147483648 else if kind = 2 then btw a 0 199 && (b == 0) && (cc == 0) else if kind = 3 then (a == 0) && (b == 0) && (cc == 0) else true)) := by unfold Hid; rw [HS2.out, listB', HN.out, ← HE.out, HQ.out]; rfl
      clear HX HS2 HQ
      by_cases k1 : kind = 1
      · subst k1
        have HS4 : Hid (R = (isKeyB a && (a != author) && btw b 1 3 && btw cc time 2147483648)) := by unfold Hid; rw [HS3.out]; rfl
        clear HS3
        go_wp2_with fail
        refine (refKey_any _ _).mono ?_
        rintro e w1 ⟨rfl, rfl⟩
        cases g1 : isKeyB a
        · go_wp2
          go_ret
          exact ⟨by rw [HS4.out, g1]; rfl, one_new _ _⟩
        cases g2 : (a != author)
        · go_wp2
          go_ret
          exact ⟨by rw [HS4.out, g1, g2]; rfl, one_new _ _⟩
        by_cases h1 : 1 ≤ b
        · by_cases h2 : b ≤ 3
          · by_cases h3 : time ≤ cc
            · by_cases h4 : cc ≤ 2147483648
              · have HV : Hid (R = true) := by unfold Hid; rw [HS4.out, g1, g2]; simp [btw, h1, h2, h3, h4]
                go_wp2
                go_ret
                exact ⟨by rw [HV.out]; rfl, one_new _ _⟩
              · have HV : Hid (R = false) := by unfold Hid; rw [HS4.out, g1, g2]; simp [btw, h1, h2, h3, h4]
                go_wp2
                go_ret
                exact ⟨by rw [HV.out]; show Ending.returned (.bool (decide (cc ≤ 2147483648))) = _; rw [show decide (cc ≤ 2147483648) = false by simp; omega], one_new _ _⟩
            · have HV : Hid (R = false) := by unfold Hid; rw [HS4.out, g1, g2]; simp [btw, h1, h2, h3]
              go_wp2
              go_ret
              exact ⟨by rw [HV.out]; rfl, one_new _ _⟩
          · have HV : Hid (R = false) := by unfold Hid; rw [HS4.out, g1, g2]; simp [btw, h1, h2]
            go_wp2
            go_ret
            exact ⟨by rw [HV.out]; rfl, one_new _ _⟩
        · have HV : Hid (R = false) := by unfold Hid; rw [HS4.out, g1, g2]; simp [btw, h1]
          go_wp2
          go_ret
          exact ⟨by rw [HV.out]; rfl, one_new _ _⟩
      by_cases k2 : kind = 2
      · subst k2
        have HS4 : Hid (R = (btw a 0 199 && (b == 0) && (cc == 0))) := by unfold Hid; rw [HS3.out]; rfl
        clear HS3
        go_wp2_with fail
        refine (refIn_any _ _ _).mono ?_
        rintro e w1 ⟨rfl, rfl⟩
        cases g1 : btw a 0 199
        · go_wp2
          go_ret
          exact ⟨by rw [HS4.out, g1]; rfl, one_new _ _⟩
        cases g2 : (b == 0)
        · go_wp2
          go_ret
          exact ⟨by rw [HS4.out, g1, g2]; rfl, one_new _ _⟩
        cases g3 : (cc == 0)
        · go_wp2
          go_ret
          exact ⟨by rw [HS4.out, g1, g2, g3]; rfl, one_new _ _⟩
        go_wp2
        go_ret
        exact ⟨by rw [HS4.out, g1, g2, g3]; rfl, one_new _ _⟩
      by_cases k3 : kind = 3
      · subst k3
        have HS4 : Hid (R = ((a == 0) && (b == 0) && (cc == 0))) := by unfold Hid; rw [HS3.out]; rfl
        clear HS3
        cases g1 : (a == 0)
        · go_wp2
          go_ret
          exact ⟨by rw [HS4.out, g1]; rfl, one_new _ _⟩
        cases g2 : (b == 0)
        · go_wp2
          go_ret
          exact ⟨by rw [HS4.out, g1, g2]; rfl, one_new _ _⟩
        cases g3 : (cc == 0)
        · go_wp2
          go_ret
          exact ⟨by rw [HS4.out, g1, g2, g3]; rfl, one_new _ _⟩
        go_wp2
        go_ret
        exact ⟨by rw [HS4.out, g1, g2, g3]; rfl, one_new _ _⟩
      have g1 : (kind == 1) = false := by simpa using k1
      have g2 : (kind == 2) = false := by simpa using k2
      have g3 : (kind == 3) = false := by simpa using k3
      have HS4 : Hid (R = true) := by unfold Hid; rw [HS3.out, if_neg k1, if_neg k2, if_neg k3]
      go_wp2
      go_ret
      exact ⟨by rw [HS4.out]; rfl, one_new _ _⟩
end Go.Proofs.YtnokhjpileamaaaDoor
