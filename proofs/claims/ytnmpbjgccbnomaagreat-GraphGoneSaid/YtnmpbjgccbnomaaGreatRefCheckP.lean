import Derived.Test.YtnmpbjgccbnomaaGreatPackAG
/- The walk of the reference's Check. -/
namespace Go.Proofs.YtnmpbjgccbnomaaGreat
open Go.RowKit
theorem isKind_of (kind : Int) (h1 : ¬ kind < 1) (h2 : ¬ (3 < kind ∧ kind < 10)) (h3 : ¬ 31 < kind) : isKindB kind = true := by
  unfold isKindB isTrustB btw
  by_cases h : kind ≤ 3
  · simp [h]; omega
  · simp [h]; omega
theorem not_kind (kind : Int) (h : kind < 1 ∨ (3 < kind ∧ kind < 10) ∨ 31 < kind) : isKindB kind = false := by
  unfold isKindB isTrustB btw
  rcases h with h | h | h
  · simp [show ¬ 1 ≤ kind by omega, show ¬ 10 ≤ kind by omega]
  · simp [show ¬ kind ≤ 3 by omega, show ¬ 10 ≤ kind by omega]
  · simp [show ¬ kind ≤ 3 by omega, show ¬ kind ≤ 31 by omega]
theorem range_num {s : Stm} (h : rangeB s = true) : 0 ≤ s.number := by
  unfold rangeB at h
  simp only [Bool.and_eq_true] at h
  have := h.1.1.1.1.1
  simp [btw] at this; omega
set_option maxHeartbeats 4000000 in
theorem refCheck_any (s : Stm) (A : Option Addr) (n c : Nat) (B : Option Addr) (m k : Nat) (w : World) (hl : IRow w A n c s.list) (hp : PRow w B m k s.pins) (hn : n ≤ 1000000) (hm : m ≤ 1000000) (hb : s.body.size ≤ 100000000) :
    Calls Tryz.prog 63 #[stmV s A n c B m k] w (SaysL (.int .i64 (checkV s)) w) := by
  have HL := Lib.hid hl; have HP := Lib.hid hp; have HN := Lib.hid hl.len; have HM := Lib.hid hp.len; clear hl hp
  obtain ⟨S, hS⟩ : ∃ S, S = s := ⟨_, rfl⟩
  have HS : Hid (checkV s = if isKeyB s.author = false then 4 else if isKindB s.kind = false then 5 else if btw s.time 0 2147483648 = false then 9 else if rangeB S = false then 2 else if 64 < n ∨ 64 < m ∨ 4096 < s.body.size then 3 else if formB S = false then 1 else 0) := by subst hS; unfold Hid checkV; rw [HN.out, HM.out]
  have HF : Hid (formB S = if isTrustB s.kind && decide (0 < n + m + s.body.size) then false else (if s.number = 0 then decide (s.prev.size = 0) else ((s.prev.size : Int) == 32)) && pinsB s.pins) := by subst hS; unfold Hid formB prevB; rw [HN.out, HM.out]
  have HR : Hid (rangeB S = true → 0 ≤ s.number) := by subst hS; exact Lib.hid range_num
  have HF1 : Hid (∀ w', Below w.heap.size w w' → Calls Tryz.prog 89 #[stmV s A n c B m k] w' (SaysL (.bool (rangeB S)) w')) := Lib.hid fun w' h => by subst hS; exact refNumbers_any _ _ _ _ _ _ _ w' (HL.out.later h) hn
  have HF2 : Hid (∀ w', Below w.heap.size w w' → Calls Tryz.prog 90 #[.slice B m k] w' (SaysL (.bool (pinsB s.pins)) w')) := Lib.hid fun w' h => refPins_any _ _ _ _ w' (HP.out.later h) hm
  clear hS HN HM HL HP
  obtain ⟨author, number, prev, time, kind, a, b, cc, list, pins, body, key, dig⟩ := s
  unfold stmV at HF1 ⊢
  simp only at HS HF1 HF2 hb HF HR
  generalize pinsB pins = PB at HF HF2
  generalize rangeB S = RB at HS HF1 HR
  generalize formB S = FB at HS HF
  generalize checkV _ = R at HS ⊢
  go_enter Tryz.func63, Tryz.ntmps63
  go_wp2_with fail
  refine (refKey_any _ _).mono ?_
  rintro e w1 ⟨rfl, rfl⟩
  cases g1 : isKeyB author
  · go_wp2
    go_ret
    exact ⟨by rw [HS.out, g1]; rfl, one_new _ _⟩
  have HSa : Hid (R = if isKindB kind = false then 5 else if btw time 0 2147483648 = false then 9 else if RB = false then 2 else if 64 < n ∨ 64 < m ∨ 4096 < body.size then 3 else if FB = false then 1 else 0) := by unfold Hid; rw [HS.out, g1]; rfl
  clear HS g1
  by_cases k1 : kind < 1
  · have HV : Hid (R = 5) := by unfold Hid; rw [HSa.out, not_kind kind (.inl k1)]; rfl
    go_wp2
    go_ret
    exact ⟨by rw [HV.out]; rfl, one_new _ _⟩
  by_cases k2 : 3 < kind
  · by_cases k3 : kind < 10
    · have HV : Hid (R = 5) := by unfold Hid; rw [HSa.out, not_kind kind (.inr (.inl ⟨k2, k3⟩))]; rfl
      go_wp2
      go_ret
      exact ⟨by rw [HV.out]; rfl, one_new _ _⟩
    by_cases k4 : 31 < kind
    · have HV : Hid (R = 5) := by unfold Hid; rw [HSa.out, not_kind kind (.inr (.inr k4))]; rfl
      go_wp2
      go_ret
      exact ⟨by rw [HV.out]; rfl, one_new _ _⟩
    have HK := Lib.hid (isKind_of kind k1 (by omega) k4)
    have HT : Hid (isTrustB kind = false) := by unfold Hid isTrustB btw; simp [show ¬ kind ≤ 3 by omega]
    have HF' : Hid (FB = ((if number = 0 then decide (prev.size = 0) else ((prev.size : Int) == 32)) && PB)) := by unfold Hid; rw [HF.out, HT.out]; rfl
    clear HF HT
    have HSb : Hid (R = if btw time 0 2147483648 = false then 9 else if RB = false then 2 else if 64 < n ∨ 64 < m ∨ 4096 < body.size then 3 else if FB = false then 1 else 0) := by unfold Hid; rw [HSa.out, HK.out]; rfl
    clear HSa
    go_wp2_with fail
    refine (refIn_any _ _ _).mono ?_
    rintro e w1 ⟨rfl, rfl⟩
    cases g3 : btw time 0 2147483648
    · go_wp2
      go_ret
      exact ⟨by rw [HSb.out, g3]; rfl, one_new _ _⟩
    go_wp2_with fail
    refine (HF1.out _ (one_new _ _)).mono ?_
    rintro e w1 ⟨rfl, hb1⟩
    have HB1 := Lib.hid ((one_new w _).trans (hb1.mono (by simp))); have HC := Lib.hid ((hb1.block w.heap.size (by simp)).trans (heap_alloc_new _ _)); clear hb1
    have HSc : Hid (R = if RB = false then 2 else if 64 < n ∨ 64 < m ∨ 4096 < body.size then 3 else if FB = false then 1 else 0) := by unfold Hid; rw [HSb.out, g3]; rfl
    clear HSb g3
    cases g1 : RB
    · go_wp2
      go_ret
      exact ⟨by rw [HSc.out, g1]; rfl, HB1.out⟩
    have hnn := HR.out g1
    obtain ⟨hc0, hc1, hc2, hc3, hc4, hc5, hc6, hc7, hc8, hc9, hc10, hc11, hc12⟩ := stm_cells (s := ⟨author, number, prev, time, kind, a, b, cc, list, pins, body, key, dig⟩) HC.out
    by_cases h1 : 64 < n
    · go_wp2
      go_ret
      exact ⟨by rw [HSc.out, g1, if_neg (by simp), if_pos (.inl h1)]; rfl, HB1.out⟩
    by_cases h2 : 64 < m
    · go_wp2
      go_ret
      exact ⟨by rw [HSc.out, g1, if_neg (by simp), if_pos (.inr (.inl h2))]; rfl, HB1.out⟩
    by_cases h3 : 4096 < body.size
    · go_wp2
      go_ret
      exact ⟨by rw [HSc.out, g1, if_neg (by simp), if_pos (.inr (.inr h3))]; rfl, HB1.out⟩
    have HSd : Hid (R = if FB = false then 1 else 0) := by unfold Hid; rw [HSc.out, g1, if_neg (by simp), if_neg (by omega)]
    clear HSc
    have NO : Hid (((if number = 0 then decide (prev.size = 0) else ((prev.size : Int) == 32)) && PB) = false → R = 1) := Lib.hid fun h => by rw [HSd.out, HF'.out, h]; rfl
    have YES : Hid (((if number = 0 then decide (prev.size = 0) else ((prev.size : Int) == 32)) && PB) = true → R = 0) := Lib.hid fun h => by rw [HSd.out, HF'.out, h]; rfl
    by_cases q1 : number = 0
    · by_cases q2 : prev = ⟨#[]⟩
      · have HQ : Hid ((if number = 0 then decide (prev.size = 0) else ((prev.size : Int) == 32)) = true) := by unfold Hid; rw [if_pos q1, q2]; rfl
        have NOa : Hid (PB = false → R = 1) := Lib.hid fun h => NO.out (by rw [HQ.out, h]; rfl)
        have YESa : Hid (PB = true → R = 0) := Lib.hid fun h => YES.out (by rw [HQ.out, h]; rfl)
        clear NO YES HQ HSd HF' HR
        subst q1; subst q2
        go_wp2_with fail
        refine (HF2.out _ HB1.out).mono ?_
        rintro e w2 ⟨rfl, hb2⟩
        have HB2 := Lib.hid (HB1.out.trans (hb2.mono HB1.out.size)); have HC2 := Lib.hid ((hb2.block w.heap.size (by rw [← Nat.not_le]; intro hh; have := HC.out; rw [Array.getElem?_eq_none hh] at this; cases this)).trans HC.out); clear hb2
        cases g5 : PB
        · go_wp2
          go_ret
          exact ⟨by rw [NOa.out g5]; rfl, HB2.out⟩
        clear hc0 hc1 hc2 hc3 hc4 hc5 hc6 hc7 hc8 hc9 hc10 hc11 hc12
        obtain ⟨hc0, hc1, hc2, hc3, hc4, hc5, hc6, hc7, hc8, hc9, hc10, hc11, hc12⟩ := stm_cells (s := ⟨author, 0, ⟨#[]⟩, time, kind, a, b, cc, list, pins, body, key, dig⟩) HC2.out
        have HV : Hid (R = 0) := Lib.hid (YESa.out g5)
        go_wp2
        go_ret
        exact ⟨by rw [HV.out]; rfl, HB2.out⟩
      · have HQ : Hid ((if number = 0 then decide (prev.size = 0) else ((prev.size : Int) == 32)) = false) := by unfold Hid; rw [if_pos q1]; exact decide_eq_false fun h => q2 (size_zero h)
        subst q1
        have q3 : prev.toList.isEmpty = false := not_empty q2
        have HV : Hid (R = 1) := Lib.hid (NO.out (by rw [HQ.out]; rfl))
        go_wp2
        go_ret
        exact ⟨by rw [HV.out]; rfl, HB1.out⟩
    · have q4 : 0 < number := by omega
      cases q2 : ((prev.size : Int) == 32)
      · have HQ : Hid ((if number = 0 then decide (prev.size = 0) else ((prev.size : Int) == 32)) = false) := by unfold Hid; rw [if_neg q1, q2]
        have q5 : ((prev.size : Int) != 32) = true := by simp only [bne, q2]; rfl
        have q6 : (number == 0) = false := by simpa using q1
        have HV : Hid (R = 1) := Lib.hid (NO.out (by rw [HQ.out]; rfl))
        go_wp2
        go_ret
        exact ⟨by rw [HV.out]; rfl, HB1.out⟩
      · have HQ : Hid ((if number = 0 then decide (prev.size = 0) else ((prev.size : Int) == 32)) = true) := by unfold Hid; rw [if_neg q1, q2]
        have NOa : Hid (PB = false → R = 1) := Lib.hid fun h => NO.out (by rw [HQ.out, h]; rfl)
        have YESa : Hid (PB = true → R = 0) := Lib.hid fun h => YES.out (by rw [HQ.out, h]; rfl)
        clear NO YES HQ HSd HF' HR
        have q5 : ((prev.size : Int) != 32) = false := by simp only [bne, q2]; rfl
        have q6 : (number == 0) = false := by simpa using q1
        go_wp2_with fail
        refine (HF2.out _ HB1.out).mono ?_
        rintro e w2 ⟨rfl, hb2⟩
        have HB2 := Lib.hid (HB1.out.trans (hb2.mono HB1.out.size)); have HC2 := Lib.hid ((hb2.block w.heap.size (by rw [← Nat.not_le]; intro hh; have := HC.out; rw [Array.getElem?_eq_none hh] at this; cases this)).trans HC.out); clear hb2
        cases g5 : PB
        · go_wp2
          go_ret
          exact ⟨by rw [NOa.out g5]; rfl, HB2.out⟩
        clear hc0 hc1 hc2 hc3 hc4 hc5 hc6 hc7 hc8 hc9 hc10 hc11 hc12
        obtain ⟨hc0, hc1, hc2, hc3, hc4, hc5, hc6, hc7, hc8, hc9, hc10, hc11, hc12⟩ := stm_cells (s := ⟨author, number, prev, time, kind, a, b, cc, list, pins, body, key, dig⟩) HC2.out
        have HV : Hid (R = 0) := Lib.hid (YESa.out g5)
        go_wp2
        go_ret
        exact ⟨by rw [HV.out]; rfl, HB2.out⟩
  have HK := Lib.hid (isKind_of kind k1 (by omega) (by omega))
  have HT : Hid (isTrustB kind = true) := by unfold Hid isTrustB btw; simp [show 1 ≤ kind by omega, show kind ≤ 3 by omega]
  have HSb : Hid (R = if btw time 0 2147483648 = false then 9 else if RB = false then 2 else if 64 < n ∨ 64 < m ∨ 4096 < body.size then 3 else if FB = false then 1 else 0) := by unfold Hid; rw [HSa.out, HK.out]; rfl
  clear HSa
  go_wp2_with fail
  refine (refIn_any _ _ _).mono ?_
  rintro e w1 ⟨rfl, rfl⟩
  cases g3 : btw time 0 2147483648
  · go_wp2
    go_ret
    exact ⟨by rw [HSb.out, g3]; rfl, one_new _ _⟩
  go_wp2_with fail
  refine (HF1.out _ (one_new _ _)).mono ?_
  rintro e w1 ⟨rfl, hb1⟩
  have HB1 := Lib.hid ((one_new w _).trans (hb1.mono (by simp))); have HC := Lib.hid ((hb1.block w.heap.size (by simp)).trans (heap_alloc_new _ _)); clear hb1
  have HSc : Hid (R = if RB = false then 2 else if 64 < n ∨ 64 < m ∨ 4096 < body.size then 3 else if FB = false then 1 else 0) := by unfold Hid; rw [HSb.out, g3]; rfl
  clear HSb g3
  cases g1 : RB
  · go_wp2
    go_ret
    exact ⟨by rw [HSc.out, g1]; rfl, HB1.out⟩
  have hnn := HR.out g1
  obtain ⟨hc0, hc1, hc2, hc3, hc4, hc5, hc6, hc7, hc8, hc9, hc10, hc11, hc12⟩ := stm_cells (s := ⟨author, number, prev, time, kind, a, b, cc, list, pins, body, key, dig⟩) HC.out
  by_cases h1 : 64 < n
  · go_wp2
    go_ret
    exact ⟨by rw [HSc.out, g1, if_neg (by simp), if_pos (.inl h1)]; rfl, HB1.out⟩
  by_cases h2 : 64 < m
  · go_wp2
    go_ret
    exact ⟨by rw [HSc.out, g1, if_neg (by simp), if_pos (.inr (.inl h2))]; rfl, HB1.out⟩
  by_cases h3 : 4096 < body.size
  · go_wp2
    go_ret
    exact ⟨by rw [HSc.out, g1, if_neg (by simp), if_pos (.inr (.inr h3))]; rfl, HB1.out⟩
  have HSd : Hid (R = if FB = false then 1 else 0) := by unfold Hid; rw [HSc.out, g1, if_neg (by simp), if_neg (by omega)]
  clear HSc
  have NO : Hid (((if number = 0 then decide (prev.size = 0) else ((prev.size : Int) == 32)) && PB) = false → R = 1) := Lib.hid fun h => by rw [HSd.out, HF.out, h, HT.out]; cases decide (0 < n + m + body.size) <;> rfl
  have YES : Hid (((if number = 0 then decide (prev.size = 0) else ((prev.size : Int) == 32)) && PB) = true → decide (0 < n + m + body.size) = false → R = 0) := Lib.hid fun h h0 => by rw [HSd.out, HF.out, h, HT.out, h0]; rfl
  have NOL : Hid (0 < n + m + body.size → R = 1) := Lib.hid fun h => by rw [HSd.out, HF.out, HT.out, if_pos (show (true && decide (0 < n + m + body.size)) = true by simpa using h)]; rfl
  by_cases q1 : number = 0
  · by_cases q2 : prev = ⟨#[]⟩
    · have HQ : Hid ((if number = 0 then decide (prev.size = 0) else ((prev.size : Int) == 32)) = true) := by unfold Hid; rw [if_pos q1, q2]; rfl
      have NOa : Hid (PB = false → R = 1) := Lib.hid fun h => NO.out (by rw [HQ.out, h]; rfl)
      have YESa : Hid (PB = true → decide (0 < n + m + body.size) = false → R = 0) := Lib.hid fun h => YES.out (by rw [HQ.out, h]; rfl)
      clear NO YES HQ HSd HF HR
      subst q1; subst q2
      go_wp2_with fail
      refine (HF2.out _ HB1.out).mono ?_
      rintro e w2 ⟨rfl, hb2⟩
      have HB2 := Lib.hid (HB1.out.trans (hb2.mono HB1.out.size)); have HC2 := Lib.hid ((hb2.block w.heap.size (by rw [← Nat.not_le]; intro hh; have := HC.out; rw [Array.getElem?_eq_none hh] at this; cases this)).trans HC.out); clear hb2
      cases g5 : PB
      · go_wp2
        go_ret
        exact ⟨by rw [NOa.out g5]; rfl, HB2.out⟩
      clear hc0 hc1 hc2 hc3 hc4 hc5 hc6 hc7 hc8 hc9 hc10 hc11 hc12
      obtain ⟨hc0, hc1, hc2, hc3, hc4, hc5, hc6, hc7, hc8, hc9, hc10, hc11, hc12⟩ := stm_cells (s := ⟨author, 0, ⟨#[]⟩, time, kind, a, b, cc, list, pins, body, key, dig⟩) HC2.out
      by_cases j1 : 0 < n
      · have HV : Hid (R = 1) := Lib.hid (NOL.out (by omega))
        go_wp2
        go_ret
        exact ⟨by rw [HV.out]; rfl, HB2.out⟩
      by_cases j2 : 0 < m
      · have HV : Hid (R = 1) := Lib.hid (NOL.out (by omega))
        go_wp2
        go_ret
        exact ⟨by rw [HV.out]; rfl, HB2.out⟩
      by_cases j3 : body = ⟨#[]⟩
      · have j0 : body.size = 0 := by rw [j3]; rfl
        have HV : Hid (R = 0) := Lib.hid (YESa.out g5 (decide_eq_false (by have h0 := j0; omega)))
        subst j3
        go_wp2
        go_ret
        exact ⟨by rw [HV.out]; rfl, HB2.out⟩
      have HV : Hid (R = 1) := Lib.hid (NOL.out (by have : body.size ≠ 0 := fun h => j3 (size_zero h); omega))
      have j4 : body.toList.isEmpty = false := not_empty j3
      go_wp2
      go_ret
      exact ⟨by rw [HV.out]; rfl, HB2.out⟩
    · have HQ : Hid ((if number = 0 then decide (prev.size = 0) else ((prev.size : Int) == 32)) = false) := by unfold Hid; rw [if_pos q1]; exact decide_eq_false fun h => q2 (size_zero h)
      subst q1
      have q3 : prev.toList.isEmpty = false := not_empty q2
      have HV : Hid (R = 1) := Lib.hid (NO.out (by rw [HQ.out]; rfl))
      go_wp2
      go_ret
      exact ⟨by rw [HV.out]; rfl, HB1.out⟩
  · have q4 : 0 < number := by omega
    cases q2 : ((prev.size : Int) == 32)
    · have HQ : Hid ((if number = 0 then decide (prev.size = 0) else ((prev.size : Int) == 32)) = false) := by unfold Hid; rw [if_neg q1, q2]
      have q5 : ((prev.size : Int) != 32) = true := by simp only [bne, q2]; rfl
      have q6 : (number == 0) = false := by simpa using q1
      have HV : Hid (R = 1) := Lib.hid (NO.out (by rw [HQ.out]; rfl))
      go_wp2
      go_ret
      exact ⟨by rw [HV.out]; rfl, HB1.out⟩
    · have HQ : Hid ((if number = 0 then decide (prev.size = 0) else ((prev.size : Int) == 32)) = true) := by unfold Hid; rw [if_neg q1, q2]
      have NOa : Hid (PB = false → R = 1) := Lib.hid fun h => NO.out (by rw [HQ.out, h]; rfl)
      have YESa : Hid (PB = true → decide (0 < n + m + body.size) = false → R = 0) := Lib.hid fun h => YES.out (by rw [HQ.out, h]; rfl)
      clear NO YES HQ HSd HF HR
      have q5 : ((prev.size : Int) != 32) = false := by simp only [bne, q2]; rfl
      have q6 : (number == 0) = false := by simpa using q1
      go_wp2_with fail
      refine (HF2.out _ HB1.out).mono ?_
      rintro e w2 ⟨rfl, hb2⟩
      have HB2 := Lib.hid (HB1.out.trans (hb2.mono HB1.out.size)); have HC2 := Lib.hid ((hb2.block w.heap.size (by rw [← Nat.not_le]; intro hh; have := HC.out; rw [Array.getElem?_eq_none hh] at this; cases this)).trans HC.out); clear hb2
      cases g5 : PB
      · go_wp2
        go_ret
        exact ⟨by rw [NOa.out g5]; rfl, HB2.out⟩
      clear hc0 hc1 hc2 hc3 hc4 hc5 hc6 hc7 hc8 hc9 hc10 hc11 hc12
      obtain ⟨hc0, hc1, hc2, hc3, hc4, hc5, hc6, hc7, hc8, hc9, hc10, hc11, hc12⟩ := stm_cells (s := ⟨author, number, prev, time, kind, a, b, cc, list, pins, body, key, dig⟩) HC2.out
      by_cases j1 : 0 < n
      · have HV : Hid (R = 1) := Lib.hid (NOL.out (by omega))
        go_wp2
        go_ret
        exact ⟨by rw [HV.out]; rfl, HB2.out⟩
      by_cases j2 : 0 < m
      · have HV : Hid (R = 1) := Lib.hid (NOL.out (by omega))
        go_wp2
        go_ret
        exact ⟨by rw [HV.out]; rfl, HB2.out⟩
      by_cases j3 : body = ⟨#[]⟩
      · have j0 : body.size = 0 := by rw [j3]; rfl
        have HV : Hid (R = 0) := Lib.hid (YESa.out g5 (decide_eq_false (by have h0 := j0; omega)))
        subst j3
        go_wp2
        go_ret
        exact ⟨by rw [HV.out]; rfl, HB2.out⟩
      have HV : Hid (R = 1) := Lib.hid (NOL.out (by have : body.size ≠ 0 := fun h => j3 (size_zero h); omega))
      have j4 : body.toList.isEmpty = false := not_empty j3
      go_wp2
      go_ret
      exact ⟨by rw [HV.out]; rfl, HB2.out⟩
end Go.Proofs.YtnmpbjgccbnomaaGreat
