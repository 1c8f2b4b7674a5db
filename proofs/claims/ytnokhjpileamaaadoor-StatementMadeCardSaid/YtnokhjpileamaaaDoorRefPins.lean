/- The walks of the reference's Check. -/
import Derived.Test.YtnokhjpileamaaaDoorForm
namespace Go.Proofs.YtnokhjpileamaaaDoor
open Go.RowKit
theorem refIn_any (v hi : Int) (w : World) : Calls Tryd.prog 53 #[.int .i64 v, .int .i64 hi] w (Says (.bool (btw v 0 hi)) w) := by
  cases h1 : decide (0 ≤ v) <;> cases h2 : decide (v ≤ hi)
  all_goals
    go_enter Tryd.func53, Tryd.ntmps53
    go_wp2
    go_ret
    exact ⟨by simp [btw, h1, h2], rfl⟩
theorem refKey_any (v : Int) (w : World) : Calls Tryd.prog 52 #[.int .i64 v] w (Says (.bool (isKeyB v)) w) := by
  have hb : isKeyB v = (decide (0 ≤ v) && decide (v < 64)) := by
    unfold isKeyB btw
    have : decide (v ≤ 63) = decide (v < 64) := by simp only [decide_eq_decide]; omega
    rw [this]
  rw [hb]
  cases h1 : decide (0 ≤ v) <;> cases h2 : decide (v < 64)
  all_goals
    go_enter Tryd.func52, Tryd.ntmps52
    go_wp2
    go_ret
    exact ⟨by simp, rfl⟩
set_option maxHeartbeats 2000000 in
theorem refPins_any (A : Option Addr) (n c : Nat) (l : List PinD) (w : World) (hr : PRow w A n c l) (hn : n ≤ 1000000) : Calls Tryd.prog 55 #[.slice A n c] w (SaysL (.bool (pinsB l)) w) := by
  have HR := Lib.hid hr; have HL := Lib.hid hr.len; clear hr
  go_enter Tryd.func55, Tryd.ntmps55
  go_wp2
  go_loopw [3] (fun i wr => ∃ k : Nat, k ≤ n ∧ i = .int .i64 k ∧ Hid ((List.range k).all (pinB l) = true ∧ Below w.heap.size w wr)) (fun i _ => n - (intOf i).toNat)
  case atStart => exact ⟨0, Nat.zero_le _, rfl, Lib.hid ⟨rfl, Below.refl _ _⟩⟩
  case round =>
    obtain ⟨k, hk, rfl, HQ⟩ := hrel
    by_cases hlt : k < n
    · obtain ⟨b, off, hA, hc0, hc1, hc2⟩ := (HR.out.later HQ.out.2).cells k hlt
      have hprev : k ≠ 0 → wr.cell? ⟨b, off + (k - 1) * 3, none⟩ = some (.int .i64 (l.getD (k - 1) noPin).author) := by
        intro h0
        obtain ⟨b', off', hA', hp, -, -⟩ := (HR.out.later HQ.out.2).cells (k - 1) (by omega)
        rw [hA] at hA'; injection hA' with hA'; injection hA' with h1 h2; subst h1; subst h2; exact hp
      subst hA
      have HB : Hid (pinB l k = (isKeyB (l.getD k noPin).author && btw (l.getD k noPin).height 1 200 && (((l.getD k noPin).digest.size : Int) == 32) && (k == 0 || decide ((l.getD (k - 1) noPin).author < (l.getD k noPin).author)))) := Lib.hid rfl
      generalize l.getD k noPin = p at hc0 hc1 hc2 HB
      generalize (l.getD (k - 1) noPin).author = q at hprev HB
      have HP := Lib.hid hprev; clear hprev
      have no : pinB l k = false → pinsB l = false := fun h => by rw [pinsB, HL.out]; exact all_no hlt h
      have NO := Lib.hid no; clear no
      obtain ⟨x1, x2, x3⟩ := p
      simp only at hc0 hc1 hc2 HB
      have hbw : Below w.heap.size w (wr.alloc (.cells #[.int .i64 x1, .int .i64 x2, .string x3] 44)) := HQ.out.2.alloc HQ.out.2.size _
      have hn0 : (wr.alloc (.cells #[.int .i64 x1, .int .i64 x2, .string x3] 44)).cell? ⟨wr.heap.size, 0, none⟩ = some (.int .i64 x1) := by rw [cell_of_row _ _ _ _ _ _ (heap_alloc_new _ _)]; rfl
      have hn1 : (wr.alloc (.cells #[.int .i64 x1, .int .i64 x2, .string x3] 44)).cell? ⟨wr.heap.size, 1, none⟩ = some (.int .i64 x2) := by rw [cell_of_row _ _ _ _ _ _ (heap_alloc_new _ _)]; rfl
      have hn2 : (wr.alloc (.cells #[.int .i64 x1, .int .i64 x2, .string x3] 44)).cell? ⟨wr.heap.size, 2, none⟩ = some (.string x3) := by rw [cell_of_row _ _ _ _ _ _ (heap_alloc_new _ _)]; rfl
      have hpo : k ≠ 0 → (wr.alloc (.cells #[.int .i64 x1, .int .i64 x2, .string x3] 44)).cell? ⟨b, off + (k - 1) * 3, none⟩ = some (.int .i64 q) := fun h0 => by
        rw [World.cell?_of_block (w := wr) (a := ⟨b, off + (k - 1) * 3, none⟩) ((one_new _ _).block b (World.block_lt_of_cell? wr (a := ⟨b, off + (k - 1) * 3, none⟩) (HP.out h0)))]; exact HP.out h0
      have HPO := Lib.hid hpo; have HN0 := Lib.hid hn0; have HN1 := Lib.hid hn1; have HN2 := Lib.hid hn2; have HW := Lib.hid hbw; clear hpo hn0 hn1 hn2 hbw HP
      go_wp2_with fail
      clear hc0 hc1 hc2
      have hn0 := HN0.out; have hn1 := HN1.out; have hn2 := HN2.out; clear HN0 HN1 HN2
      generalize wr.alloc (.cells #[.int .i64 x1, .int .i64 x2, .string x3] 44) = w2 at hn0 hn1 hn2 HPO HW ⊢
      have HQ1 := Lib.hid HQ.out.1; clear HQ
      cases g1 : isKeyB x1
      · have HV : Hid (pinB l k = false) := by unfold Hid; rw [HB.out]; rw [g1]; rfl
        go_quiet ((go_at_call 52; exact Calls.quiet_of_same ((refKey_any _ _).mono (fun _ _ ⟨h1, h2⟩ => ⟨by rw [g1] at h1; exact h1, h2.symm⟩))))
        go_wp2
        go_ret
        exact ⟨by rw [NO.out HV.out]; rfl, below_nq HW.out _⟩
      by_cases h0 : k = 0
      · have h1 : (k : Int) = 0 := by omega
        have HK : Hid ((k == 0) = true) := by unfold Hid; simpa using h0
        clear HPO
        by_cases g2 : x2 < 1
        · have HV : Hid (pinB l k = false) := by unfold Hid; rw [HB.out]; rw [g1]; simp [btw, show ¬ (1 ≤ x2) by omega]
          go_quiet ((go_at_call 52; exact Calls.quiet_of_same ((refKey_any _ _).mono (fun _ _ ⟨h1, h2⟩ => ⟨by rw [g1] at h1; exact h1, h2.symm⟩))))
          go_wp2
          go_ret
          exact ⟨by rw [NO.out HV.out]; rfl, below_nq HW.out _⟩
        by_cases g3 : 200 < x2
        · have HV : Hid (pinB l k = false) := by unfold Hid; rw [HB.out]; rw [g1]; simp [btw, show ¬ (x2 ≤ 200) by omega]
          go_quiet ((go_at_call 52; exact Calls.quiet_of_same ((refKey_any _ _).mono (fun _ _ ⟨h1, h2⟩ => ⟨by rw [g1] at h1; exact h1, h2.symm⟩))))
          go_wp2
          go_ret
          exact ⟨by rw [NO.out HV.out]; rfl, below_nq HW.out _⟩
        have HT : Hid (btw x2 1 200 = true) := by unfold Hid; simp [btw]; omega
        cases g4 : ((x3.size : Int) == 32)
        · have g5 : ((x3.size : Int) != 32) = true := by simp only [bne, g4]; rfl
          have HV : Hid (pinB l k = false) := by unfold Hid; rw [HB.out]; rw [g1, HT.out, g4]; rfl
          go_quiet ((go_at_call 52; exact Calls.quiet_of_same ((refKey_any _ _).mono (fun _ _ ⟨h1, h2⟩ => ⟨by rw [g1] at h1; exact h1, h2.symm⟩))))
          go_wp2
          go_ret
          exact ⟨by rw [NO.out HV.out]; rfl, below_nq HW.out _⟩
        · have g5 : ((x3.size : Int) != 32) = false := by simp only [bne, g4]; rfl
          have HV : Hid (pinB l k = true) := by unfold Hid; rw [HB.out]; rw [g1, HT.out, g4, HK.out]; rfl
          go_quiet ((go_at_call 52; exact Calls.quiet_of_same ((refKey_any _ _).mono (fun _ _ ⟨h1, h2⟩ => ⟨by rw [g1] at h1; exact h1, h2.symm⟩))))
          go_wp2
          refine ⟨⟨k + 1, hlt, by go_num, Lib.hid ⟨all_more HQ1.out HV.out, below_nq HW.out _⟩⟩, by simp [intOf]; omega⟩
      · have hp := HPO.out h0
        have e0 : (0 : Int) ≤ (k : Int) - 1 := by omega
        have e1 : (k : Int) - 1 < n := by omega
        have e2 : ((k : Int) - 1).toNat = k - 1 := by omega
        have HK : Hid ((k == 0) = false) := by unfold Hid; simpa using h0
        have e4 : 0 < k := by omega
        have e5 : decide (0 < k) = true := decide_eq_true e4
        clear HPO
        by_cases h2 : q < x1
        · have h3 : ¬ x1 ≤ q := by omega
          have HO : Hid (decide (q < x1) = true) := Lib.hid (decide_eq_true h2)
          clear h2
          by_cases g2 : x2 < 1
          · have HV : Hid (pinB l k = false) := by unfold Hid; rw [HB.out]; rw [g1]; simp [btw, show ¬ (1 ≤ x2) by omega]
            go_quiet ((go_at_call 52; exact Calls.quiet_of_same ((refKey_any _ _).mono (fun _ _ ⟨h1, h2⟩ => ⟨by rw [g1] at h1; exact h1, h2.symm⟩))))
            go_wp2
            go_ret
            exact ⟨by rw [NO.out HV.out]; rfl, below_nq HW.out _⟩
          by_cases g3 : 200 < x2
          · have HV : Hid (pinB l k = false) := by unfold Hid; rw [HB.out]; rw [g1]; simp [btw, show ¬ (x2 ≤ 200) by omega]
            go_quiet ((go_at_call 52; exact Calls.quiet_of_same ((refKey_any _ _).mono (fun _ _ ⟨h1, h2⟩ => ⟨by rw [g1] at h1; exact h1, h2.symm⟩))))
            go_wp2
            go_ret
            exact ⟨by rw [NO.out HV.out]; rfl, below_nq HW.out _⟩
          have HT : Hid (btw x2 1 200 = true) := by unfold Hid; simp [btw]; omega
          cases g4 : ((x3.size : Int) == 32)
          · have g5 : ((x3.size : Int) != 32) = true := by simp only [bne, g4]; rfl
            have HV : Hid (pinB l k = false) := by unfold Hid; rw [HB.out]; rw [g1, HT.out, g4]; rfl
            go_quiet ((go_at_call 52; exact Calls.quiet_of_same ((refKey_any _ _).mono (fun _ _ ⟨h1, h2⟩ => ⟨by rw [g1] at h1; exact h1, h2.symm⟩))))
            go_wp2
            go_ret
            exact ⟨by rw [NO.out HV.out]; rfl, below_nq HW.out _⟩
          · have g5 : ((x3.size : Int) != 32) = false := by simp only [bne, g4]; rfl
            have HV : Hid (pinB l k = true) := by unfold Hid; rw [HB.out]; rw [g1, HT.out, g4, HK.out, HO.out]; rfl
            go_quiet ((go_at_call 52; exact Calls.quiet_of_same ((refKey_any _ _).mono (fun _ _ ⟨h1, h2⟩ => ⟨by rw [g1] at h1; exact h1, h2.symm⟩))))
            go_wp2
            refine ⟨⟨k + 1, hlt, by go_num, Lib.hid ⟨all_more HQ1.out HV.out, below_nq HW.out _⟩⟩, by simp [intOf]; omega⟩
        · have h3 : x1 ≤ q := by omega
          have HO : Hid (decide (q < x1) = false) := Lib.hid (decide_eq_false h2)
          clear h2
          have HV : Hid (pinB l k = false) := by unfold Hid; rw [HB.out]; rw [g1, HK.out, HO.out]; cases btw x2 1 200 <;> cases ((x3.size : Int) == 32) <;> rfl
          go_quiet ((go_at_call 52; exact Calls.quiet_of_same ((refKey_any _ _).mono (fun _ _ ⟨h1, h2⟩ => ⟨by rw [g1] at h1; exact h1, h2.symm⟩))))
          go_wp2
          go_ret
          exact ⟨by rw [NO.out HV.out]; rfl, below_nq HW.out _⟩
    · have HE : Hid (k = n) := by unfold Hid; omega
      go_wp2
      go_ret
      exact ⟨by rw [pinsB, HL.out, ← HE.out, HQ.out.1]; rfl, HQ.out.2⟩
end Go.Proofs.YtnokhjpileamaaaDoor
