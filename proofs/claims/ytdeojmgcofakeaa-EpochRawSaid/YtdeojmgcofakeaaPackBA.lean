import Derived.Test.YtdeojmgcofakeaaPackAY
import Derived.Test.YtdeojmgcofakeaaPackAZ
import Derived.Test.YtdeojmgcofakeaaPackAU
/- The walk of the law EpochOrder, over any program that gives what layer 9 asks. -/
namespace Go.Proofs.Ytdeojmgcofakeaa
open Go.RowKit
set_option maxRecDepth 100000 in
set_option maxHeartbeats 4000000 in
theorem orderE_any (H : EpochC) (TA : Option Addr) (tn tc : Nat) (t : List Int) (w : World) (ht : IRow w TA tn tc t) :
    Calls Try.prog 5 #[.slice TA tn tc] w (SaysL (.bool true) w) := by
  have HAW : Hid (∀ y, Below w.heap.size w y → Calls Try.prog 7 #[] y (SaysL (.bool true) y)) := Lib.hid fun y _ => awakeE_any H y
  have HT := Lib.hid ht; clear ht
  go_enter Try.func5, Try.ntmps5
  go_wp2_with fail
  refine (light_any TA tn tc w).mono ?_
  rintro e w0 ⟨rfl, rfl⟩
  by_cases hn : tn ≤ 400
  · have g : decide (tn ≤ 400) = true := decide_eq_true hn
    go_wp2_with fail
    clear g
    refine (roll_any w.heap.size TA tn tc t w HT.out (by omega) (Nat.le_refl _) (fun ad e h0 => Row.lt HT.out (by decide) ad e h0)).mono ?_
    rintro e w1 ⟨rfl, hd, hb⟩
    obtain ⟨D, hD⟩ : ∃ D, D = w.heap.size := ⟨_, rfl⟩
    have HD : Hid (∃ k, DiceAt w1 w.heap.size D t k) := Lib.hid ⟨0, by rw [hD]; exact hd⟩
    have HB := Lib.hid hb
    have HDD : Hid (w.heap.size = D) := Lib.hid hD.symm
    rw [← hD]
    clear hd hb hD HT
    go_wp2_with fail
    refine (lists_g w.heap.size D t 3 3 rfl 4 w1 HD.out (by omega) (by omega)).mono ?_
    rintro e w2 ⟨v, l, rfl, hg1, hl1, hg, -⟩
    obtain ⟨A, c, hv, hr⟩ := hg1.own.row
    subst hv
    have HL := Lib.hid hr
    have HB := Lib.hid (HB.out.trans (hg.2.below (by have := HDD.out; omega) HB.out.size))
    have hln : l.length ≤ 18 := hl1
    have HFP : Hid (∀ p ∈ l, Few p.s) := Lib.hid fun p hp => (hg1.small p hp).few
    obtain ⟨S, hS⟩ : ∃ S, l.map (·.s) = S := ⟨_, rfl⟩
    have HSE := Lib.hid hS
    have HSL : Hid (S.length = l.length) := Lib.hid (by rw [← hS, List.length_map])
    have HFW : Hid (∀ s ∈ S, Few s) := Lib.hid fun s hs => by
      rw [← hS] at hs
      obtain ⟨p, hp, he⟩ := List.mem_map.1 hs
      rw [← he]; exact HFP.out p hp
    clear hg1 hl1 hg hr hS HD HDD
    go_wp2_with fail
    refine (H.order A l.length c l w2 HL.out (by omega)).mono ?_
    rw [HSE.out]
    rintro e w3 ⟨A3, c3, l3, rfl, hm3, hr3, hb⟩
    have HL3 := Lib.hid (HL.out.later hb); have HB3 := Lib.hid (HB.out.trans (hb.mono HB.out.size)); have HR3 := Lib.hid hr3; have HM3 := Lib.hid hm3
    have h33 : l3.length = l.length := by rw [map_len hm3, orderS_len, HSL.out]
    have HLL := Lib.hid h33
    have hl3 : l3.length ≤ 18 := by omega
    have b0 : ((l3.length : Int) != (l.length : Int)) = false := by rw [h33]; simp
    clear hm3 hr3 hb HL HB h33
    go_wp2_with fail
    refine (H.order A3 l3.length c3 l3 w3 HR3.out (by omega)).mono ?_
    rw [HM3.out, orderS_idem]
    rintro e w4 ⟨A4, c4, l4, rfl, hm4, hr4, hb⟩
    have HL4 := Lib.hid (HL3.out.later hb); have HB4 := Lib.hid (HB3.out.trans (hb.mono HB3.out.size)); have HR4 := Lib.hid (HR3.out.later hb)
    have HSM := Lib.hid (sameList_few A4 l4.length c4 l4 A3 l3.length c3 l3 w4 hr4 HR4.out (by rw [map_len hm4, orderS_len, HSL.out]; omega) (fun p hp => HFW.out _ ((orderS_mem S _).1 (by rw [← hm4]; exact List.mem_map_of_mem hp))))
    rw [HM3.out, hm4, sameLB_self] at HSM
    clear hm4 hr4 hb HL3 HB3 HR3
    go_wp2_with fail
    refine HSM.out.mono ?_
    clear HSM
    rintro e w5 ⟨rfl, hb⟩
    have HL5 := Lib.hid (HL4.out.later hb); have HB5 := Lib.hid (HB4.out.trans (hb.mono HB4.out.size)); have HR5 := Lib.hid (HR4.out.later hb)
    clear hb HL4 HB4 HR4 b0
    have HIN : Hid (∀ i, i < l3.length → ∃ j, j < l.length ∧ (l.getD j noPl).s = (l3.getD i noPl).s) := Lib.hid fun i hi => by
      have h1 : (l3.getD i noPl).s ∈ S := (orderS_mem S _).1 (by rw [← HM3.out]; exact List.mem_map_of_mem (HR5.out.get i hi))
      rw [← HSE.out] at h1
      obtain ⟨j, hj, he⟩ := List.mem_iff_getElem.1 h1
      rw [List.length_map] at hj
      refine ⟨j, hj, ?_⟩
      rw [← getD_s, ← he, List.getD_eq_getElem?_getD, List.getElem?_eq_getElem (by rw [List.length_map]; exact hj)]
      rfl
    have HSO : Hid (∀ i, 0 < i → i < l3.length → leT (l3.getD (i - 1) noPl).s (l3.getD i noPl).s) := Lib.hid fun i h0 hi => by
      have h1 := sorted_at (orderS_sorted S) (show i - 1 < i by omega) (show i < (orderS S).length by rw [← map_len HM3.out]; exact hi)
      rw [← HM3.out, getD_s, getD_s] at h1
      exact h1
    have HLA : Hid (0 < l3.length → latestS S = (l3.getD (l3.length - 1) noPl).s.time) := Lib.hid fun h0 => by
      rw [latest_last S (by rw [HSL.out, ← HLL.out]; exact h0), ← getD_s, HM3.out, ← map_len HM3.out]
    clear HM3 HFW HSL HLL
    go_wp2_with fail
    go_loopw [6] (fun i6 wr => ∃ i : Nat, i ≤ l3.length ∧ i6 = .int .i64 i ∧ Hid (Below w.heap.size w wr ∧ Below w5.heap.size w5 wr)) (fun i6 _ => l3.length - (intOf i6).toNat)
    case atStart => exact ⟨0, Nat.zero_le _, rfl, Lib.hid ⟨HB5.out, Below.refl _ _⟩⟩
    case round =>
      obtain ⟨i, hi, rfl, HQ⟩ := hrel
      clear HB5
      by_cases hil : i < l3.length
      · have hil2 : (i : Int) < (l3.length : Int) := by omega
        obtain ⟨q, hq⟩ : ∃ q, l3.getD i noPl = q := ⟨_, rfl⟩
        have HQE := Lib.hid hq
        have HO : Hid (∃ j, j < l.length ∧ (l.getD j noPl).s = q.s) := Lib.hid (by rw [← hq]; exact HIN.out i hil)
        have HFO : Hid (PlOk w5 q) := Lib.hid (by rw [← hq]; exact HR5.out.at i hil)
        clear hq
        go_wp2_with fail
        go_loopw [7, 8] (fun i7 i8 wq => ∃ (k m : Nat), k ≤ l.length ∧ m ≤ k ∧ i8 = .int .i64 k ∧ i7 = .int .i64 m ∧ Hid ((∃ j, j < k ∧ (l.getD j noPl).s = q.s) → 0 < m) ∧ Hid (Below w.heap.size w wq ∧ Below w5.heap.size w5 wq)) (fun _ i8 _ => l.length - (intOf i8).toNat)
        case atStart => exact ⟨0, 0, Nat.zero_le _, Nat.le_refl _, rfl, rfl, Lib.hid (fun ⟨j, hj, _⟩ => absurd hj (Nat.not_lt_zero _)), HQ⟩
        case round =>
          clear HQ
          obtain ⟨k, m, hk, hmk, rfl, rfl, HEX, HQ⟩ := hrel
          by_cases hkl : k < l.length
          · have hkl2 : (k : Int) < (l.length : Int) := by omega
            go_wp2_with fail
            refine wp_region_grow (by kernel_rfl) Later Later.refl (fun _ _ _ => Later.trans) [] [([0, 1, 2, 3, 4, 5, 6, 7], 8)] (by kernel_rfl) (by kernel_rfl) (by kernel_rfl) ?_
            simp only [List.map_cons, List.map_nil, pick, List.getD_cons_zero, List.getD_cons_succ]
            have HB7 : Hid (Below w.heap.size w wr.drew) := Lib.hid HQ.out.1.drew
            have HC7 : Hid (Below w5.heap.size w5 wr.drew) := Lib.hid HQ.out.2.drew
            clear HQ
            generalize wr.drew = z0 at *
            obtain ⟨b1, off1, hA1, hf1⟩ := LRow.futs (F := Later) Later.refl (fun _ h => h) (HL5.out.later HC7.out) k hkl
            subst hA1
            obtain ⟨b2, off2, hA2, hf2⟩ := LRow.futs (F := Later) Later.refl (fun _ h => h) (HR5.out.later HC7.out) i hil
            subst hA2
            rw [HQE.out] at hf2
            obtain ⟨p, hp⟩ : ∃ p, l.getD k noPl = p := ⟨_, rfl⟩
            rw [hp] at hf1
            have HSA := Lib.hid (sameP_few p q z0 (by rw [← hp]; exact (HL5.out.later HC7.out).at k hkl) (HFO.out.later HC7.out) (by rw [← hp]; exact HFP.out _ (HL5.out.get k hkl)))
            have HEQ : Hid (sameS p.s q.s = false → (l.getD k noPl).s ≠ q.s) := Lib.hid fun h e => by rw [hp] at e; rw [e, sameS_self] at h; cases h
            have hf1c := cells_futs hf1; have hf2c := cells_futs hf2
            clear hf1 hf2 hp
            generalize sameS p.s q.s = bb at *
            have HEX2 : Hid (bb = false → ((∃ j, j < k + 1 ∧ (l.getD j noPl).s = q.s) → 0 < m)) := Lib.hid fun hb ⟨j, hj, he⟩ => by
              by_cases hjk : j = k
              · rw [hjk] at he; exact absurd he (HEQ.out hb)
              · exact HEX.out ⟨j, by omega, he⟩
            refine wpGrow_cons ?_
            repeat (first | (refine wpQuiet_load rfl 30 (.tmp 45) rfl ⟨b1, off1 + k * 13, none⟩ rfl (.agg p.arr) (fun w' h => by obtain ⟨x, rfl⟩ := h; exact hf1c x) ?_; simp only [Act.put, List.setIfInBounds_toArray, List.set_cons_succ, List.set_cons_zero]) | (refine wpQuiet_load rfl 30 (.tmp 49) rfl ⟨b2, off2 + i * 13, none⟩ rfl (.agg q.arr) (fun w' h => by obtain ⟨x, rfl⟩ := h; exact hf2c x) ?_; simp only [Act.put, List.setIfInBounds_toArray, List.set_cons_succ, List.set_cons_zero]) | go_big_quiet_step (fail))
            refine wpQuiet_nil ?_
            clear hf1c hf2c
            go_wp2_with fail
            refine HSA.out.mono ?_
            clear HSA
            rintro e w7 ⟨rfl, hb⟩
            have HF : Hid (Later z0 w7) := Lib.hid hb
            have HB8 := Lib.hid (HB7.out.trans (hb.mono HB7.out.size)); have HC8 := Lib.hid (HC7.out.trans (hb.mono HC7.out.size))
            clear hb HB7 HC7
            go_wp2_with fail
            refine pieceEnd_normal ⟨HF.out, ?_⟩
            clear HF
            refine wpGrow_nil ?_
            refine wpQuiet_nil ?_
            cases bb
            · go_wp2_with fail
              exact ⟨⟨k + 1, m, by omega, by omega, by go_num, rfl, Lib.hid (HEX2.out rfl), Lib.hid ⟨HB8.out, HC8.out⟩⟩, by simp [intOf]; omega⟩
            · have hm1 : (m : Int) + 1 ≤ 100 := by omega
              have hw1 : wrap64 ((m : Int) + 1) = (m : Int) + 1 := wrap64_id7 _ (by omega)
              go_wp2_with fail
              exact ⟨⟨k + 1, m + 1, by omega, by omega, by go_num, by go_num, Lib.hid (fun _ => Nat.succ_pos _), Lib.hid ⟨HB8.out, HC8.out⟩⟩, by simp [intOf]; omega⟩
          · have hkl2 : ¬ (k : Int) < (l.length : Int) := by omega
            have hm0 : 0 < m := HEX.out (by obtain ⟨j, hj, he⟩ := HO.out; exact ⟨j, by omega, he⟩)
            have c0 : ((m : Int) == 0) = false := by rw [beq_eq_false_iff_ne]; omega
            have c1 : (m == 0) = false := by rw [beq_eq_false_iff_ne]; omega
            clear HEX HO
            go_wp2_with fail
            refine wp_region_grow (by kernel_rfl) Later Later.refl (fun _ _ _ => Later.trans) [0, 1, 2, 3, 4, 5, 6, 7, 8, 9, 10, 11, 12, 13, 14, 15, 16, 17, 18, 19, 20, 21, 22, 23, 24, 25, 26, 27, 28, 29, 30, 31, 32, 33, 34, 35, 36, 37, 38, 39, 40, 41, 42, 43, 44, 45, 46, 47] [] (by kernel_rfl) (by kernel_rfl) (by kernel_rfl) ?_
            simp only [List.map_cons, List.map_nil, pick, List.getD_cons_zero, List.getD_cons_succ]
            have HB7 : Hid (Below w.heap.size w wr.drew) := Lib.hid HQ.out.1.drew
            have HC7 : Hid (Below w5.heap.size w5 wr.drew) := Lib.hid HQ.out.2.drew
            clear HQ
            generalize wr.drew = z0 at *
            by_cases hi0 : 0 < i
            · have d0 : decide ((i : Int) > 0) = true := decide_eq_true (by omega)
              have d1 : (0 : Int) < (i : Int) := by omega
              have e0 : (0 : Int) ≤ (i : Int) - 1 := by omega
              have e1 : (i : Int) - 1 < (l3.length : Int) := by omega
              have e2 : ((i : Int) - 1).toNat = i - 1 := by omega
              have HLE := Lib.hid (HSO.out i hi0 hil)
              obtain ⟨b, off, hA, hf⟩ := LRow.futs (F := Later) Later.refl (fun _ h => h) (HR5.out.later HC7.out) i hil
              subst hA
              obtain ⟨b2, off2, hA2, hg⟩ := LRow.futs (F := Later) Later.refl (fun _ h => h) (HR5.out.later HC7.out) (i - 1) (by omega)
              injection hA2 with hA2
              injection hA2 with h1 h2
              subst h1 h2
              have hf0 : ∀ y, (fut Later z0 y).cell? ⟨b, off + i * 13, none⟩ = some (.int .i64 (l3.getD i noPl).s.author) := fun y => hf y 0 (by rw [Pl.size]; decide)
              have hf3 : ∀ y, (fut Later z0 y).cell? ⟨b, off + i * 13 + 3, none⟩ = some (.int .i64 (l3.getD i noPl).s.time) := fun y => hf y 3 (by rw [Pl.size]; decide)
              have hg0 : ∀ y, (fut Later z0 y).cell? ⟨b, off + (i - 1) * 13, none⟩ = some (.int .i64 (l3.getD (i - 1) noPl).s.author) := fun y => hg y 0 (by rw [Pl.size]; decide)
              have hg3 : ∀ y, (fut Later z0 y).cell? ⟨b, off + (i - 1) * 13 + 3, none⟩ = some (.int .i64 (l3.getD (i - 1) noPl).s.time) := fun y => hg y 3 (by rw [Pl.size]; decide)
              clear hf hg
              have HLE2 := Lib.hid ((leT_iff _ _).1 HLE.out)
              clear HLE
              generalize (l3.getD i noPl).s.author = a1 at *
              generalize (l3.getD i noPl).s.time = t1 at *
              generalize (l3.getD (i - 1) noPl).s.author = a0 at *
              generalize (l3.getD (i - 1) noPl).s.time = t0 at *
              have hle := HLE2.out
              have k0 : decide (t0 > t1) = false := decide_eq_false (by omega)
              have k0' : decide (t1 < t0) = false := k0
              by_cases hte : t0 = t1
              · have k1 : (t0 == t1) = true := by rw [hte]; simp
                have k2 : decide (a0 > a1) = false := decide_eq_false (by omega)
                have k2' : decide (a1 < a0) = false := k2
                clear hle hte HLE2
                refine wpGrow_nil ?_
                repeat (go_big_quiet_step (fail))
                refine wpQuiet_nil ?_
                clear hf0 hf3 hg0 hg3
                go_wp2_with fail
                exact ⟨⟨i + 1, by omega, by go_num, Lib.hid ⟨HB7.out, HC7.out⟩⟩, by simp [intOf]; omega⟩
              · have k1 : (t0 == t1) = false := by rw [beq_eq_false_iff_ne]; exact hte
                clear hle hte HLE2
                refine wpGrow_nil ?_
                repeat (go_big_quiet_step (fail))
                refine wpQuiet_nil ?_
                clear hf0 hf3 hg0 hg3
                go_wp2_with fail
                exact ⟨⟨i + 1, by omega, by go_num, Lib.hid ⟨HB7.out, HC7.out⟩⟩, by simp [intOf]; omega⟩
            · have d0 : decide ((i : Int) > 0) = false := decide_eq_false (by omega)
              have d1 : ¬ (0 : Int) < (i : Int) := by omega
              have d2 : decide ((0 : Int) < (i : Int)) = false := decide_eq_false (by omega)
              refine wpGrow_nil ?_
              repeat (go_big_quiet_step (fail))
              refine wpQuiet_nil ?_
              clear d2
              go_wp2_with fail
              exact ⟨⟨i + 1, by omega, by go_num, Lib.hid ⟨HB7.out, HC7.out⟩⟩, by simp [intOf]; omega⟩
      · have hil2 : ¬ (i : Int) < (l3.length : Int) := by omega
        go_wp2_with fail
        refine wp_region_grow (by kernel_rfl) Later Later.refl (fun _ _ _ => Later.trans) [15, 16, 17, 18] [([], 0), ([1, 2, 3, 4, 5, 6, 8, 9, 10, 11, 12, 13, 14], 7)] (by kernel_rfl) (by kernel_rfl) (by kernel_rfl) ?_
        simp only [List.map_cons, List.map_nil, pick, List.getD_cons_zero, List.getD_cons_succ]
        have HB7 : Hid (Below w.heap.size w wr.drew) := Lib.hid HQ.out.1.drew
        have HC7 : Hid (Below w5.heap.size w5 wr.drew) := Lib.hid HQ.out.2.drew
        clear HQ
        generalize wr.drew = z0 at *
        refine wpGrow_cons ?_
        refine wpQuiet_nil ?_
        go_wp2_with fail
        refine (HAW.out z0 HB7.out).mono ?_
        rintro e z1 ⟨rfl, hb⟩
        have HF : Hid (Later z0 z1) := Lib.hid hb
        have HB8 := Lib.hid (HB7.out.trans (hb.mono HB7.out.size)); have HC8 := Lib.hid (HC7.out.trans (hb.mono HC7.out.size))
        clear hb HB7 HC7
        go_wp2_with fail
        refine pieceEnd_normal ⟨HF.out, ?_⟩
        clear HF
        by_cases h0 : 0 < l3.length
        · have f0 : ((l3.length : Int) == 0) = false := by rw [beq_eq_false_iff_ne]; omega
          have f1 : (l3.length == 0) = false := by rw [beq_eq_false_iff_ne]; omega
          have e0 : (0 : Int) ≤ (l3.length : Int) - 1 := by omega
          have e1 : (l3.length : Int) - 1 < (l3.length : Int) := by omega
          have e2 : ((l3.length : Int) - 1).toNat = l3.length - 1 := by omega
          obtain ⟨b, off, hA, hf⟩ := LRow.futs (F := Later) Later.refl (fun _ h => h) (HR5.out.later HC8.out) (l3.length - 1) (by omega)
          subst hA
          have hf3 : ∀ y, (fut Later z1 y).cell? ⟨b, off + (l3.length - 1) * 13 + 3, none⟩ = some (.int .i64 (l3.getD (l3.length - 1) noPl).s.time) := fun y => hf y 3 (by rw [Pl.size]; decide)
          clear hf
          have HLT := Lib.hid (H.latest A l.length c l z1 (HL5.out.later HC8.out) (by omega))
          rw [HSE.out, HLA.out h0] at HLT
          generalize (l3.getD (l3.length - 1) noPl).s.time = tl at *
          refine wpGrow_cons ?_
          repeat (go_big_quiet_step (fail))
          refine wpQuiet_nil ?_
          clear hf3
          go_wp2_with fail
          refine HLT.out.mono ?_
          clear HLT
          rintro e z2 ⟨rfl, hb⟩
          have HF : Hid (Later z1 z2) := Lib.hid hb
          have HB9 := Lib.hid (HB8.out.trans (hb.mono HB8.out.size))
          clear hb HB8 HC8
          go_wp2_with fail
          refine pieceEnd_normal ⟨HF.out, ?_⟩
          clear HF
          refine wpGrow_nil ?_
          repeat (go_big_quiet_step (fail))
          refine wpQuiet_nil ?_
          go_wp2_with fail
          go_ret
          exact ⟨rfl, HB9.out⟩
        · have f0 : ((l3.length : Int) == 0) = true := by rw [show l3.length = 0 by omega]; rfl
          have f1 : (l3.length == 0) = true := by rw [show l3.length = 0 by omega]; rfl
          refine wpGrow_cons ?_
          repeat (go_big_quiet_step (fail))
          refine wpQuiet_nil ?_
          go_wp2_with fail
          have HF : Hid (Later z1 z1) := Lib.hid (Later.refl _)
          refine pieceEnd_normal ⟨HF.out, ?_⟩
          clear HF
          refine wpGrow_nil ?_
          repeat (go_big_quiet_step (fail))
          refine wpQuiet_nil ?_
          go_wp2_with fail
          go_ret
          exact ⟨rfl, HB8.out⟩
  · have g : decide (tn ≤ 400) = false := decide_eq_false hn
    go_wp2_with fail
    clear g
    refine (HAW.out w (Below.refl _ _)).mono ?_
    rintro e w1 ⟨rfl, hb⟩
    have HB := Lib.hid hb; clear hb
    go_wp2_with fail
    go_ret
    exact ⟨rfl, HB.out⟩
end Go.Proofs.Ytdeojmgcofakeaa
/-
  PROVED: for every input the law EpochOrder returns true and leaves its arguments as they were. Conditions: none but the row's own.
-/
namespace Go.Proofs.Ytdeojmgcofakeaa.epochOrder
open Go.ChangeShapes Go.WideShapes Go.ChangeAt Go.RowKit
theorem own : ownKnob Try.prog.godebug = none := by kernel_rfl
theorem laidOut : laidOutB Try.prog = true := by kernel_rfl
theorem cellsI : Try.prog.cellsOf 3 = 1 := by kernel_rfl
set_option maxRecDepth 100000 in
theorem lifted (H9 : EpochC) (os : Os) (started : os.Started) (H : Type) (enc : TypeId × Value → H) :
    ReturnsInHanded {} Try.checked os 5 .any (Rows.epochOrderSpec.pre6 enc Try.prog Try.f5 Rows.epochOrderRow.domain false) (Rows.epochOrderSpec.post enc Try.prog Try.f5 false true false false) := by
  refine returnsInHanded_of_change (C := Try.checked) own started (by kernel_rfl) Try.func5
    (ChangeSpec.witness6 (enc := enc) (C := Try.checked) false ⟨#[], #[.slice none 0 0], []⟩ 8 (by kernel_rfl) (by kernel_rfl) (by kernel_rfl) (by kernel_rfl)) ?_
  intro W base args ds gs before hval hW _ _
  have hW' := hW
  obtain ⟨p, q, hA, hV, rfl, _, _⟩ := hW
  rw [Try.params5] at hA hval
  obtain ⟨v0, d0, rfl, rfl, h0⟩ := trodAll_one hA
  obtain ⟨rfl, rfl⟩ := trodVars_none hV
  obtain ⟨A, n, c, l, rfl, hr, _⟩ := open_i64s Try.underlying25 Try.underlying3 cellsI (hval 0 25 v0 rfl rfl) h0
  refine (orderE_any H9 A n c l W hr).mono fun e W' ⟨he, hb⟩ => ?_
  subst he
  exact law_post laidOut (by kernel_rfl) Try.underlying4 (by kernel_rfl) rfl hW' rfl hb
theorem over (H9 : EpochC) : Rows.EpochOrderSaid :=
  OpenClaim.holds_of_wide 5 Try.f5 rfl rfl rfl rfl rfl rfl rfl ⟨rfl, rfl, rfl, rfl, rfl⟩ rfl rfl rfl rfl rfl (by kernel_rfl) Try.func5 (by kernel_rfl)
    (of_decide_eq_true (by kernel_rfl)) (by unfold Func.isWrapper; first | (rw [if_pos (by decide +kernel)]; kernel_rfl) | (rw [if_neg (by decide +kernel)]; exact ⟨rfl, rfl⟩))
    (fun os started H enc _ => lifted H9 os started H enc)
end Go.Proofs.Ytdeojmgcofakeaa.epochOrder
/-
  PROVED: for every input the law EpochEach returns true and leaves its arguments as they were. Conditions: none but the row's own.
-/
namespace Go.Proofs.Ytdeojmgcofakeaa.epochEach
open Go.ChangeShapes Go.WideShapes Go.ChangeAt Go.RowKit
theorem own : ownKnob Try.prog.godebug = none := by kernel_rfl
theorem laidOut : laidOutB Try.prog = true := by kernel_rfl
theorem cellsI : Try.prog.cellsOf 3 = 1 := by kernel_rfl
set_option maxRecDepth 100000 in
theorem lifted (H9 : EpochC) (os : Os) (started : os.Started) (H : Type) (enc : TypeId × Value → H) :
    ReturnsInHanded {} Try.checked os 6 .any (Rows.epochEachSpec.pre6 enc Try.prog Try.f6 Rows.epochEachRow.domain false) (Rows.epochEachSpec.post enc Try.prog Try.f6 false true false false) := by
  refine returnsInHanded_of_change (C := Try.checked) own started (by kernel_rfl) Try.func6
    (ChangeSpec.witness6 (enc := enc) (C := Try.checked) false ⟨#[], #[.slice none 0 0, .int .i64 0], []⟩ 8 (by kernel_rfl) (by kernel_rfl) (by kernel_rfl) (by kernel_rfl)) ?_
  intro W base args ds gs before hval hW _ _
  have hW' := hW
  obtain ⟨p, q, hA, hV, rfl, _, _⟩ := hW
  rw [Try.params6] at hA hval
  obtain ⟨v0, v1, d0, d1, p0, p1, rfl, rfl, rfl, h0, h1⟩ := trodAll_two hA
  obtain ⟨rfl, rfl⟩ := trodVars_none hV
  obtain ⟨A, n, c, l, rfl, hr, _⟩ := open_i64s Try.underlying25 Try.underlying3 cellsI (hval 0 25 v0 rfl rfl) h0
  obtain ⟨a1, rfl, rfl, rfl, w1⟩ := open_int Try.underlying3 (hval 1 3 v1 rfl rfl) h1
  refine (each_any H9 A n c l a1 W hr).mono fun e W' ⟨he, hb⟩ => ?_
  subst he
  exact law_post laidOut (by kernel_rfl) Try.underlying4 (by kernel_rfl) rfl hW' rfl hb
theorem over (H9 : EpochC) : Rows.EpochEachSaid :=
  OpenClaim.holds_of_wide 6 Try.f6 rfl rfl rfl rfl rfl rfl rfl ⟨rfl, rfl, rfl, rfl, rfl⟩ rfl rfl rfl rfl rfl (by kernel_rfl) Try.func6 (by kernel_rfl)
    (of_decide_eq_true (by kernel_rfl)) (by unfold Func.isWrapper; first | (rw [if_pos (by decide +kernel)]; kernel_rfl) | (rw [if_neg (by decide +kernel)]; exact ⟨rfl, rfl⟩))
    (fun os started H enc _ => lifted H9 os started H enc)
end Go.Proofs.Ytdeojmgcofakeaa.epochEach
