import Derived.Test.YtdildmfjekdlgaaPackAP
import Derived.Test.YtdildmfjekdlgaaPackAR
import Derived.Test.YtdildmfjekdlgaaPackAB
import Derived.Test.YtdildmfjekdlgaaPackAK
import Derived.Test.YtdildmfjekdlgaaPackAJ
import Derived.Test.YtdildmfjekdlgaaGGraphP
/- The walk of the reference's Put. -/
namespace Go.Proofs.Ytdildmfjekdlgaa
open Go.RowKit
theorem IRow.take12 {w : World} {A : Option Addr} {n c : Nat} {l : List Int} (h : IRow w A n c l) (k : Nat) (hk : k ≤ n) : IRow w A k c (l.take k) := by
  have h1 := Row.take h k hk
  rw [Nat.mul_one, show (intsV l).take k = intsV (l.take k) from (by unfold intsV; rw [List.map_take])] at h1
  exact h1
theorem IRow.drop12 {w : World} {A : Option Addr} {n c : Nat} {l : List Int} (h : IRow w A n c l) (k : Nat) (hk : k ≤ n) : IRow w (dropA A c k 1) (n - k) (c - k) (l.drop k) := by
  have h1 := Row.drop h k hk
  rw [Nat.mul_one, show (intsV l).drop k = intsV (l.drop k) from (by unfold intsV; rw [List.map_drop])] at h1
  exact h1
set_option maxRecDepth 100000 in
set_option maxHeartbeats 4000000 in
theorem put12_own (A : Option Addr) (n c : Nat) (l : List Int) (x : Int) (w : World) (h : IRow w A n c l) (hn : n ≤ 100000) : Calls Try.prog 30 #[.slice A n c, .int .i64 x] w (fun e w' => ∃ v, e = .returned v ∧ w'.ownsRow w.heap.size 3 1 v (putI l x).length (intsV (putI l x)) ∧ Below w.heap.size w w') := by
  have hln : l.length = n := h.len
  obtain ⟨K, hK⟩ : ∃ K, putAt x l = K := ⟨_, rfl⟩
  have HKN : Hid (K ≤ n) := Lib.hid (by rw [← hK, ← hln]; exact putAt_le x l)
  have HLO : Hid (∀ i, i < K → l.getD i 0 < x) := Lib.hid fun i hi => putAt_low x l i (by rw [hK]; exact hi)
  have HAT : Hid (K < n → ¬ l.getD K 0 < x) := Lib.hid fun hi => by
    have h := putAt_at x l (by rw [hK, hln]; exact hi)
    rw [hK] at h
    exact h
  have HP1 : Hid (K < n → l.getD K 0 = x → putI l x = l) := Lib.hid fun h1 h2 => by
    unfold putI
    rw [hK, hln, if_pos ⟨h1, h2⟩]
  have HP2 : Hid (¬ (K < n ∧ l.getD K 0 = x) → putI l x = l.take K ++ [x] ++ l.drop K) := Lib.hid fun h1 => by
    unfold putI
    rw [hK, hln, if_neg h1]
    simp
  have H := Lib.hid h
  have HLL := Lib.hid hln
  clear h hln hK
  go_enter Try.func30, Try.ntmps30
  go_wp2_with fail
  go_loopw [5] (fun i wr => ∃ j : Nat, j ≤ K ∧ i = .int .i64 j ∧ Hid (Below w.heap.size w wr)) (fun i _ => n - (intOf i).toNat)
  case atStart => exact ⟨0, Nat.zero_le _, rfl, Lib.hid (Below.refl _ _)⟩
  case round =>
    obtain ⟨j, hj, rfl, HB⟩ := hrel
    have hkn := HKN.out
    by_cases hlt : j < n
    · have hlt2 : (j : Int) < (n : Int) := by omega
      obtain ⟨bo, oo, hAo, hcell⟩ := IRow.cell (H.out.later HB.out) j hlt
      subst hAo
      by_cases hjk : j < K
      · have hjx := HLO.out j hjk
        obtain ⟨y, hy⟩ : ∃ y, l.getD j 0 = y := ⟨_, rfl⟩
        rw [hy] at hcell hjx
        have d1 : decide (y < x) = true := decide_eq_true hjx
        clear hjx hy
        go_wp2_with fail
        clear d1 hcell
        exact ⟨⟨j + 1, hjk, by go_num, HB⟩, by simp [intOf]; omega⟩
      · obtain rfl : j = K := by omega
        have hcn := HAT.out hlt
        have HE1 := Lib.hid (HP1.out hlt)
        have HE2 := Lib.hid fun h : l.getD j 0 ≠ x => HP2.out (fun q => h q.2)
        obtain ⟨y, hy⟩ : ∃ y, l.getD j 0 = y := ⟨_, rfl⟩
        rw [hy] at hcell hcn HE1 HE2
        have d1 : decide (y < x) = false := decide_eq_false (by omega)
        clear hcn hy hjk HP1 HP2 HLO HAT
        by_cases he : y = x
        · have d2 : (y == x) = true := by rw [he]; simp
          have d2' : decide (y = x) = true := decide_eq_true he
          have HE := Lib.hid (HE1.out he)
          clear he HE1 HE2
          go_upto_region 5 with fail
          go_wp2_with (at_builtin; go_must (refine wpList_app wr rfl (.const (.slice none 0 0)) (.tmp 32) 22 22 3 rfl w.heap.size Try.underlying22 i64_info rfl _ 0 [] (World.ownsRow_nil _ _ _ _) rfl _ n (intsV l) (Row.src (H.out.later HB.out) Try.underlying22 (intsV_one _)) rfl (by unfold maxLen; omega) (by omega) HB.out.size ?_); intro v1 z1 ho hb; rw [Nat.zero_add, List.nil_append] at ho; have HO1 := Lib.hid ho; have HF := Lib.hid hb; clear ho hb)
          obtain ⟨A5, c5, hv5, hr5⟩ := Row.of_own HO1.out
          subst hv5
          have HR5 := Lib.hid HO1.out
          clear HO1 hr5 d1 d2 d2' hcell
          go_wp2_with fail
          go_ret
          refine ⟨_, rfl, ?_, HB.out.trans HF.out⟩
          rw [HE.out, HLL.out]
          exact HR5.out
        · have d2 : (y == x) = false := by rw [beq_eq_false_iff_ne]; exact he
          have d2' : decide (y = x) = false := decide_eq_false he
          have HE := Lib.hid (HE2.out he)
          clear he HE1 HE2
          go_upto_region 6 with fail
          have hs1 := fun w' => run_slice_to (P := Try.prog) (t := 22) Try.underlying22 i64_size (w0 := wr) (H.out.later HB.out) (i := (j : Int)) rfl hkn .i64 w'
          have hs2 := fun w' => run_slice_from (P := Try.prog) (t := 22) Try.underlying22 i64_size (A := some ⟨bo, oo, none⟩) (n := n) (c := c) (k := j) (i := (j : Int)) rfl hkn .i64 w'
          obtain ⟨g8, hg8⟩ : ∃ g8, wr.heap.size = g8 := ⟨_, rfl⟩
          refine wp_region_flow (by kernel_rfl) (Below g8) ?_
          have HBD : Hid (Below w.heap.size w wr.drew) := Lib.hid HB.out.drew
          have HN0 : Hid (g8 ≤ wr.drew.heap.size) := Lib.hid (Nat.le_of_eq hg8.symm)
          have HSE : Hid (wr.drew.heap.size = g8) := Lib.hid hg8
          clear HB hg8
          generalize wr.drew = z0 at *
          have HVD : Hid (IRow z0 (some ⟨bo, oo, none⟩) n c l) := Lib.hid (H.out.later HBD.out)
          have HLT := Lib.hid (HVD.out.take12 j hkn)
          have HLD := Lib.hid (HVD.out.drop12 j hkn)
          have HZ : Hid (Below g8 z0 z0) := Lib.hid (Below.refl _ _)
          clear HVD
          generalize dropA (some ⟨bo, oo, none⟩) c j 1 = AD at hs2 HLD
          generalize l.take j = l1 at *
          generalize l.drop j = l2 at *
          have hk1 : l1.length = j := HLT.out.len
          have hk2 : l2.length = n - j := HLD.out.len
          have HK1 := Lib.hid hk1; have HK2 := Lib.hid hk2
          refine flow_reads (F := Below g8) (fun _ => Below.refl _ _) (by kernel_rfl) [0, 1, 2, 4, 7, 8, 9] (fuel := 5) (by kernel_rfl) ?_
          simp only [List.map_cons, List.map_nil, pick, List.getD_cons_zero, List.getD_cons_succ]
          repeat (go_big_quiet_step (fail))
          refine wpQuiet_nil ?_
          clear hs1 hs2
          refine flow_two (F := Below g8) (fun _ _ _ => Below.trans) (fun _ => Below.refl _ _) 3 5 (by kernel_rfl) (by decide) (by decide) ?_ ?_ <;> simp only [pick, List.getD_cons_zero, List.getD_cons_succ]
          · have HZL : Hid (Below z0.heap.size z0 z0) := Lib.hid (by have h := HZ.out; rw [← HSE.out] at h; exact h)
            go_wp2_with (at_builtin; go_must (refine wpList_app z0 rfl (.const (.slice none 0 0)) (.tmp 36) 22 22 3 rfl g8 Try.underlying22 i64_info rfl _ 0 [] (World.ownsRow_nil _ _ _ _) rfl _ j (intsV l1) (Row.src (HLT.out.later HZL.out) Try.underlying22 (intsV_one _)) rfl (by unfold maxLen; omega) (by omega) HN0.out ?_); intro v1 z1 ho hb; rw [Nat.zero_add, List.nil_append] at ho; have HO1 := Lib.hid ho; have HF := Lib.hid hb; replace HZ := Lib.hid (HZ.out.trans hb); replace HN0 := Lib.hid (Nat.le_trans HN0.out hb.size); clear ho hb)
            refine pieceEnd_normal ⟨HF.out, ?_⟩
            clear HF HZL
            refine flow_one (F := Below g8) (fun _ _ _ => Below.trans) (fun _ => Below.refl _ _) 5 (by kernel_rfl) (by decide) ?_
            simp only [pick, List.getD_cons_zero, List.getD_cons_succ]
            go_wp2_with fail
            have hb : Below g8 z1 (z1.alloc (.cells #[.int .i64 x] 3)) := (one_new z1 _).mono HN0.out
            refine pieceEnd_normal ⟨hb, ?_⟩
            have HR3 : Hid (Row (z1.alloc (.cells #[.int .i64 x] 3)) (some ⟨z1.heap.size, 0, none⟩) 1 1 1 (intsV [x])) := Lib.hid (Row.of_block (heap_alloc_new _ _) rfl)
            replace HO1 := Lib.hid (World.ownsRow.alloc HO1.out (.cells #[.int .i64 x] 3))
            replace HZ := Lib.hid (HZ.out.trans hb); replace HN0 := Lib.hid (Nat.le_trans HN0.out hb.size)
            clear hb
            obtain ⟨g3, hg3⟩ : ∃ g3, z1.heap.size = g3 := ⟨_, rfl⟩
            rw [hg3] at HR3 ⊢
            clear hg3
            generalize z1.alloc (.cells #[.int .i64 x] 3) = z2 at *
            refine flow_one (F := Below g8) (fun _ _ _ => Below.trans) (fun _ => Below.refl _ _) 6 (by kernel_rfl) (by decide) ?_
            simp only [pick, List.getD_cons_zero, List.getD_cons_succ]
            go_wp2_with (at_builtin; go_must (refine wpList_app2 z2 rfl (.tmp 37) (.tmp 39) 22 22 3 rfl g8 Try.underlying22 i64_info rfl _ j _ HO1.out rfl _ 1 (intsV [x]) (Row.src HR3.out Try.underlying22 (intsV_one _)) rfl (by unfold maxLen; omega) (by omega) HN0.out ?_); intro v4 z4 ho hb hkp hv; have HO5 := Lib.hid ho; have HF := Lib.hid hb; replace HZ := Lib.hid (HZ.out.trans hb); replace HN0 := Lib.hid (Nat.le_trans HN0.out hb.size); clear ho hb hkp hv)
            refine pieceEnd_normal ⟨HF.out, ?_⟩
            clear HF
            have HZL : Hid (Below z0.heap.size z0 z4) := Lib.hid (by have h := HZ.out; rw [← HSE.out] at h; exact h)
            have HD4 : Hid (IRow z4 AD (n - j) (c - j) l2) := Lib.hid (HLD.out.later HZL.out)
            refine flow_one (F := Below g8) (fun _ _ _ => Below.trans) (fun _ => Below.refl _ _) 10 (by kernel_rfl) (by decide) ?_
            simp only [pick, List.getD_cons_zero, List.getD_cons_succ]
            go_wp2_with (at_builtin; go_must (refine wpList_app2 z4 rfl (.tmp 40) (.tmp 43) 22 22 3 rfl g8 Try.underlying22 i64_info rfl _ (j + 1) _ HO5.out rfl _ (n - j) (intsV l2) (Row.src HD4.out Try.underlying22 (intsV_one _)) rfl (by unfold maxLen; omega) (by omega) HN0.out ?_); intro v4 z5 ho hb hkp hv; have HO6 := Lib.hid ho; have HF := Lib.hid hb; replace HZ := Lib.hid (HZ.out.trans hb); replace HN0 := Lib.hid (Nat.le_trans HN0.out hb.size); clear ho hb hkp hv)
            refine pieceEnd_normal ⟨HF.out, ?_⟩
            clear HF
            refine flow_reads (F := Below g8) (fun _ => Below.refl _ _) (by kernel_rfl) [11] (fuel := 0) (by kernel_rfl) ?_
            simp only [List.map_cons, List.map_nil, pick, List.getD_cons_zero, List.getD_cons_succ]
            repeat (go_big_quiet_step (fail))
            refine wpQuiet_nil ?_
            refine flow_done (by kernel_rfl) ?_
            have HO7 : Hid (z5.ownsRow g8 3 1 _ (j + 1 + (n - j)) (intsV (l1 ++ [x] ++ l2))) := Lib.hid (by rw [intsV_app, intsV_app]; exact HO6.out)
            clear HO6 HO5 HO1 HR3 HD4 HZL
            obtain ⟨A5, c5, hv5, hr5⟩ := Row.of_own HO7.out
            subst hv5
            have HR5 := Lib.hid HO7.out
            clear HO7 hr5
            go_wp2_with fail
            go_ret
            have hge : w.heap.size ≤ g8 := by have := HBD.out.size; have := HSE.out; omega
            refine ⟨_, rfl, ?_, HBD.out.trans (HZ.out.mono hge)⟩
            rw [HE.out, show (l1 ++ [x] ++ l2).length = j + 1 + (n - j) by simp [HK1.out, HK2.out]; omega]
            exact own_base HR5.out hge
          · skip
            go_wp2_with fail
            have hb : Below g8 z0 (z0.alloc (.cells #[.int .i64 x] 3)) := (one_new z0 _).mono HN0.out
            refine pieceEnd_normal ⟨hb, ?_⟩
            have HR3 : Hid (Row (z0.alloc (.cells #[.int .i64 x] 3)) (some ⟨z0.heap.size, 0, none⟩) 1 1 1 (intsV [x])) := Lib.hid (Row.of_block (heap_alloc_new _ _) rfl)
            replace HZ := Lib.hid (HZ.out.trans hb); replace HN0 := Lib.hid (Nat.le_trans HN0.out hb.size)
            clear hb
            obtain ⟨g3, hg3⟩ : ∃ g3, z0.heap.size = g3 := ⟨_, rfl⟩
            rw [hg3] at HR3 ⊢
            clear hg3
            generalize z0.alloc (.cells #[.int .i64 x] 3) = z1 at *
            refine flow_one (F := Below g8) (fun _ _ _ => Below.trans) (fun _ => Below.refl _ _) 3 (by kernel_rfl) (by decide) ?_
            simp only [pick, List.getD_cons_zero, List.getD_cons_succ]
            have HZL : Hid (Below z0.heap.size z0 z1) := Lib.hid (by have h := HZ.out; rw [← HSE.out] at h; exact h)
            go_wp2_with (at_builtin; go_must (refine wpList_app2 z1 rfl (.const (.slice none 0 0)) (.tmp 36) 22 22 3 rfl g8 Try.underlying22 i64_info rfl _ 0 [] (World.ownsRow_nil _ _ _ _) rfl _ j (intsV l1) (Row.src (HLT.out.later HZL.out) Try.underlying22 (intsV_one _)) rfl (by unfold maxLen; omega) (by omega) HN0.out ?_); intro v1 z2 ho hb hkp hv; rw [Nat.zero_add, List.nil_append] at ho; have HO1 := Lib.hid ho; have HF := Lib.hid hb; replace HR3 := Lib.hid (Row.keep HR3.out fun ad _ _ hlt => hkp _ hlt (fun e => by cases e)); replace HZ := Lib.hid (HZ.out.trans hb); replace HN0 := Lib.hid (Nat.le_trans HN0.out hb.size); clear ho hb hkp hv)
            refine pieceEnd_normal ⟨HF.out, ?_⟩
            clear HF HZL
            refine flow_one (F := Below g8) (fun _ _ _ => Below.trans) (fun _ => Below.refl _ _) 6 (by kernel_rfl) (by decide) ?_
            simp only [pick, List.getD_cons_zero, List.getD_cons_succ]
            go_wp2_with (at_builtin; go_must (refine wpList_app2 z2 rfl (.tmp 37) (.tmp 39) 22 22 3 rfl g8 Try.underlying22 i64_info rfl _ j _ HO1.out rfl _ 1 (intsV [x]) (Row.src HR3.out Try.underlying22 (intsV_one _)) rfl (by unfold maxLen; omega) (by omega) HN0.out ?_); intro v4 z4 ho hb hkp hv; have HO5 := Lib.hid ho; have HF := Lib.hid hb; replace HZ := Lib.hid (HZ.out.trans hb); replace HN0 := Lib.hid (Nat.le_trans HN0.out hb.size); clear ho hb hkp hv)
            refine pieceEnd_normal ⟨HF.out, ?_⟩
            clear HF
            have HZL : Hid (Below z0.heap.size z0 z4) := Lib.hid (by have h := HZ.out; rw [← HSE.out] at h; exact h)
            have HD4 : Hid (IRow z4 AD (n - j) (c - j) l2) := Lib.hid (HLD.out.later HZL.out)
            refine flow_one (F := Below g8) (fun _ _ _ => Below.trans) (fun _ => Below.refl _ _) 10 (by kernel_rfl) (by decide) ?_
            simp only [pick, List.getD_cons_zero, List.getD_cons_succ]
            go_wp2_with (at_builtin; go_must (refine wpList_app2 z4 rfl (.tmp 40) (.tmp 43) 22 22 3 rfl g8 Try.underlying22 i64_info rfl _ (j + 1) _ HO5.out rfl _ (n - j) (intsV l2) (Row.src HD4.out Try.underlying22 (intsV_one _)) rfl (by unfold maxLen; omega) (by omega) HN0.out ?_); intro v4 z5 ho hb hkp hv; have HO6 := Lib.hid ho; have HF := Lib.hid hb; replace HZ := Lib.hid (HZ.out.trans hb); replace HN0 := Lib.hid (Nat.le_trans HN0.out hb.size); clear ho hb hkp hv)
            refine pieceEnd_normal ⟨HF.out, ?_⟩
            clear HF
            refine flow_reads (F := Below g8) (fun _ => Below.refl _ _) (by kernel_rfl) [11] (fuel := 0) (by kernel_rfl) ?_
            simp only [List.map_cons, List.map_nil, pick, List.getD_cons_zero, List.getD_cons_succ]
            repeat (go_big_quiet_step (fail))
            refine wpQuiet_nil ?_
            refine flow_done (by kernel_rfl) ?_
            have HO7 : Hid (z5.ownsRow g8 3 1 _ (j + 1 + (n - j)) (intsV (l1 ++ [x] ++ l2))) := Lib.hid (by rw [intsV_app, intsV_app]; exact HO6.out)
            clear HO6 HO5 HO1 HR3 HD4 HZL
            obtain ⟨A5, c5, hv5, hr5⟩ := Row.of_own HO7.out
            subst hv5
            have HR5 := Lib.hid HO7.out
            clear HO7 hr5
            go_wp2_with fail
            go_ret
            have hge : w.heap.size ≤ g8 := by have := HBD.out.size; have := HSE.out; omega
            refine ⟨_, rfl, ?_, HBD.out.trans (HZ.out.mono hge)⟩
            rw [HE.out, show (l1 ++ [x] ++ l2).length = j + 1 + (n - j) by simp [HK1.out, HK2.out]; omega]
            exact own_base HR5.out hge
    · have hlt2 : ¬ (j : Int) < (n : Int) := by omega
      obtain rfl : j = K := by omega
      have HE := Lib.hid (HP2.out (fun q => hlt q.1))
      clear HP1 HP2 HLO HAT
      go_upto_region 6 with fail
      have hs1 := fun w' => run_slice_to (P := Try.prog) (t := 22) Try.underlying22 i64_size (w0 := wr) (H.out.later HB.out) (i := (j : Int)) rfl hkn .i64 w'
      have hs2 := fun w' => run_slice_from (P := Try.prog) (t := 22) Try.underlying22 i64_size (A := A) (n := n) (c := c) (k := j) (i := (j : Int)) rfl hkn .i64 w'
      obtain ⟨g8, hg8⟩ : ∃ g8, wr.heap.size = g8 := ⟨_, rfl⟩
      refine wp_region_flow (by kernel_rfl) (Below g8) ?_
      have HBD : Hid (Below w.heap.size w wr.drew) := Lib.hid HB.out.drew
      have HN0 : Hid (g8 ≤ wr.drew.heap.size) := Lib.hid (Nat.le_of_eq hg8.symm)
      have HSE : Hid (wr.drew.heap.size = g8) := Lib.hid hg8
      clear HB hg8
      generalize wr.drew = z0 at *
      have HVD : Hid (IRow z0 (A) n c l) := Lib.hid (H.out.later HBD.out)
      have HLT := Lib.hid (HVD.out.take12 j hkn)
      have HLD := Lib.hid (HVD.out.drop12 j hkn)
      have HZ : Hid (Below g8 z0 z0) := Lib.hid (Below.refl _ _)
      clear HVD
      generalize dropA (A) c j 1 = AD at hs2 HLD
      generalize l.take j = l1 at *
      generalize l.drop j = l2 at *
      have hk1 : l1.length = j := HLT.out.len
      have hk2 : l2.length = n - j := HLD.out.len
      have HK1 := Lib.hid hk1; have HK2 := Lib.hid hk2
      refine flow_reads (F := Below g8) (fun _ => Below.refl _ _) (by kernel_rfl) [0, 1, 2, 4, 7, 8, 9] (fuel := 5) (by kernel_rfl) ?_
      simp only [List.map_cons, List.map_nil, pick, List.getD_cons_zero, List.getD_cons_succ]
      repeat (go_big_quiet_step (fail))
      refine wpQuiet_nil ?_
      clear hs1 hs2
      refine flow_two (F := Below g8) (fun _ _ _ => Below.trans) (fun _ => Below.refl _ _) 3 5 (by kernel_rfl) (by decide) (by decide) ?_ ?_ <;> simp only [pick, List.getD_cons_zero, List.getD_cons_succ]
      · have HZL : Hid (Below z0.heap.size z0 z0) := Lib.hid (by have h := HZ.out; rw [← HSE.out] at h; exact h)
        go_wp2_with (at_builtin; go_must (refine wpList_app z0 rfl (.const (.slice none 0 0)) (.tmp 36) 22 22 3 rfl g8 Try.underlying22 i64_info rfl _ 0 [] (World.ownsRow_nil _ _ _ _) rfl _ j (intsV l1) (Row.src (HLT.out.later HZL.out) Try.underlying22 (intsV_one _)) rfl (by unfold maxLen; omega) (by omega) HN0.out ?_); intro v1 z1 ho hb; rw [Nat.zero_add, List.nil_append] at ho; have HO1 := Lib.hid ho; have HF := Lib.hid hb; replace HZ := Lib.hid (HZ.out.trans hb); replace HN0 := Lib.hid (Nat.le_trans HN0.out hb.size); clear ho hb)
        refine pieceEnd_normal ⟨HF.out, ?_⟩
        clear HF HZL
        refine flow_one (F := Below g8) (fun _ _ _ => Below.trans) (fun _ => Below.refl _ _) 5 (by kernel_rfl) (by decide) ?_
        simp only [pick, List.getD_cons_zero, List.getD_cons_succ]
        go_wp2_with fail
        have hb : Below g8 z1 (z1.alloc (.cells #[.int .i64 x] 3)) := (one_new z1 _).mono HN0.out
        refine pieceEnd_normal ⟨hb, ?_⟩
        have HR3 : Hid (Row (z1.alloc (.cells #[.int .i64 x] 3)) (some ⟨z1.heap.size, 0, none⟩) 1 1 1 (intsV [x])) := Lib.hid (Row.of_block (heap_alloc_new _ _) rfl)
        replace HO1 := Lib.hid (World.ownsRow.alloc HO1.out (.cells #[.int .i64 x] 3))
        replace HZ := Lib.hid (HZ.out.trans hb); replace HN0 := Lib.hid (Nat.le_trans HN0.out hb.size)
        clear hb
        obtain ⟨g3, hg3⟩ : ∃ g3, z1.heap.size = g3 := ⟨_, rfl⟩
        rw [hg3] at HR3 ⊢
        clear hg3
        generalize z1.alloc (.cells #[.int .i64 x] 3) = z2 at *
        refine flow_one (F := Below g8) (fun _ _ _ => Below.trans) (fun _ => Below.refl _ _) 6 (by kernel_rfl) (by decide) ?_
        simp only [pick, List.getD_cons_zero, List.getD_cons_succ]
        go_wp2_with (at_builtin; go_must (refine wpList_app2 z2 rfl (.tmp 37) (.tmp 39) 22 22 3 rfl g8 Try.underlying22 i64_info rfl _ j _ HO1.out rfl _ 1 (intsV [x]) (Row.src HR3.out Try.underlying22 (intsV_one _)) rfl (by unfold maxLen; omega) (by omega) HN0.out ?_); intro v4 z4 ho hb hkp hv; have HO5 := Lib.hid ho; have HF := Lib.hid hb; replace HZ := Lib.hid (HZ.out.trans hb); replace HN0 := Lib.hid (Nat.le_trans HN0.out hb.size); clear ho hb hkp hv)
        refine pieceEnd_normal ⟨HF.out, ?_⟩
        clear HF
        have HZL : Hid (Below z0.heap.size z0 z4) := Lib.hid (by have h := HZ.out; rw [← HSE.out] at h; exact h)
        have HD4 : Hid (IRow z4 AD (n - j) (c - j) l2) := Lib.hid (HLD.out.later HZL.out)
        refine flow_one (F := Below g8) (fun _ _ _ => Below.trans) (fun _ => Below.refl _ _) 10 (by kernel_rfl) (by decide) ?_
        simp only [pick, List.getD_cons_zero, List.getD_cons_succ]
        go_wp2_with (at_builtin; go_must (refine wpList_app2 z4 rfl (.tmp 40) (.tmp 43) 22 22 3 rfl g8 Try.underlying22 i64_info rfl _ (j + 1) _ HO5.out rfl _ (n - j) (intsV l2) (Row.src HD4.out Try.underlying22 (intsV_one _)) rfl (by unfold maxLen; omega) (by omega) HN0.out ?_); intro v4 z5 ho hb hkp hv; have HO6 := Lib.hid ho; have HF := Lib.hid hb; replace HZ := Lib.hid (HZ.out.trans hb); replace HN0 := Lib.hid (Nat.le_trans HN0.out hb.size); clear ho hb hkp hv)
        refine pieceEnd_normal ⟨HF.out, ?_⟩
        clear HF
        refine flow_reads (F := Below g8) (fun _ => Below.refl _ _) (by kernel_rfl) [11] (fuel := 0) (by kernel_rfl) ?_
        simp only [List.map_cons, List.map_nil, pick, List.getD_cons_zero, List.getD_cons_succ]
        repeat (go_big_quiet_step (fail))
        refine wpQuiet_nil ?_
        refine flow_done (by kernel_rfl) ?_
        have HO7 : Hid (z5.ownsRow g8 3 1 _ (j + 1 + (n - j)) (intsV (l1 ++ [x] ++ l2))) := Lib.hid (by rw [intsV_app, intsV_app]; exact HO6.out)
        clear HO6 HO5 HO1 HR3 HD4 HZL
        obtain ⟨A5, c5, hv5, hr5⟩ := Row.of_own HO7.out
        subst hv5
        have HR5 := Lib.hid HO7.out
        clear HO7 hr5
        go_wp2_with fail
        go_ret
        have hge : w.heap.size ≤ g8 := by have := HBD.out.size; have := HSE.out; omega
        refine ⟨_, rfl, ?_, HBD.out.trans (HZ.out.mono hge)⟩
        rw [HE.out, show (l1 ++ [x] ++ l2).length = j + 1 + (n - j) by simp [HK1.out, HK2.out]; omega]
        exact own_base HR5.out hge
      · skip
        go_wp2_with fail
        have hb : Below g8 z0 (z0.alloc (.cells #[.int .i64 x] 3)) := (one_new z0 _).mono HN0.out
        refine pieceEnd_normal ⟨hb, ?_⟩
        have HR3 : Hid (Row (z0.alloc (.cells #[.int .i64 x] 3)) (some ⟨z0.heap.size, 0, none⟩) 1 1 1 (intsV [x])) := Lib.hid (Row.of_block (heap_alloc_new _ _) rfl)
        replace HZ := Lib.hid (HZ.out.trans hb); replace HN0 := Lib.hid (Nat.le_trans HN0.out hb.size)
        clear hb
        obtain ⟨g3, hg3⟩ : ∃ g3, z0.heap.size = g3 := ⟨_, rfl⟩
        rw [hg3] at HR3 ⊢
        clear hg3
        generalize z0.alloc (.cells #[.int .i64 x] 3) = z1 at *
        refine flow_one (F := Below g8) (fun _ _ _ => Below.trans) (fun _ => Below.refl _ _) 3 (by kernel_rfl) (by decide) ?_
        simp only [pick, List.getD_cons_zero, List.getD_cons_succ]
        have HZL : Hid (Below z0.heap.size z0 z1) := Lib.hid (by have h := HZ.out; rw [← HSE.out] at h; exact h)
        go_wp2_with (at_builtin; go_must (refine wpList_app2 z1 rfl (.const (.slice none 0 0)) (.tmp 36) 22 22 3 rfl g8 Try.underlying22 i64_info rfl _ 0 [] (World.ownsRow_nil _ _ _ _) rfl _ j (intsV l1) (Row.src (HLT.out.later HZL.out) Try.underlying22 (intsV_one _)) rfl (by unfold maxLen; omega) (by omega) HN0.out ?_); intro v1 z2 ho hb hkp hv; rw [Nat.zero_add, List.nil_append] at ho; have HO1 := Lib.hid ho; have HF := Lib.hid hb; replace HR3 := Lib.hid (Row.keep HR3.out fun ad _ _ hlt => hkp _ hlt (fun e => by cases e)); replace HZ := Lib.hid (HZ.out.trans hb); replace HN0 := Lib.hid (Nat.le_trans HN0.out hb.size); clear ho hb hkp hv)
        refine pieceEnd_normal ⟨HF.out, ?_⟩
        clear HF HZL
        refine flow_one (F := Below g8) (fun _ _ _ => Below.trans) (fun _ => Below.refl _ _) 6 (by kernel_rfl) (by decide) ?_
        simp only [pick, List.getD_cons_zero, List.getD_cons_succ]
        go_wp2_with (at_builtin; go_must (refine wpList_app2 z2 rfl (.tmp 37) (.tmp 39) 22 22 3 rfl g8 Try.underlying22 i64_info rfl _ j _ HO1.out rfl _ 1 (intsV [x]) (Row.src HR3.out Try.underlying22 (intsV_one _)) rfl (by unfold maxLen; omega) (by omega) HN0.out ?_); intro v4 z4 ho hb hkp hv; have HO5 := Lib.hid ho; have HF := Lib.hid hb; replace HZ := Lib.hid (HZ.out.trans hb); replace HN0 := Lib.hid (Nat.le_trans HN0.out hb.size); clear ho hb hkp hv)
        refine pieceEnd_normal ⟨HF.out, ?_⟩
        clear HF
        have HZL : Hid (Below z0.heap.size z0 z4) := Lib.hid (by have h := HZ.out; rw [← HSE.out] at h; exact h)
        have HD4 : Hid (IRow z4 AD (n - j) (c - j) l2) := Lib.hid (HLD.out.later HZL.out)
        refine flow_one (F := Below g8) (fun _ _ _ => Below.trans) (fun _ => Below.refl _ _) 10 (by kernel_rfl) (by decide) ?_
        simp only [pick, List.getD_cons_zero, List.getD_cons_succ]
        go_wp2_with (at_builtin; go_must (refine wpList_app2 z4 rfl (.tmp 40) (.tmp 43) 22 22 3 rfl g8 Try.underlying22 i64_info rfl _ (j + 1) _ HO5.out rfl _ (n - j) (intsV l2) (Row.src HD4.out Try.underlying22 (intsV_one _)) rfl (by unfold maxLen; omega) (by omega) HN0.out ?_); intro v4 z5 ho hb hkp hv; have HO6 := Lib.hid ho; have HF := Lib.hid hb; replace HZ := Lib.hid (HZ.out.trans hb); replace HN0 := Lib.hid (Nat.le_trans HN0.out hb.size); clear ho hb hkp hv)
        refine pieceEnd_normal ⟨HF.out, ?_⟩
        clear HF
        refine flow_reads (F := Below g8) (fun _ => Below.refl _ _) (by kernel_rfl) [11] (fuel := 0) (by kernel_rfl) ?_
        simp only [List.map_cons, List.map_nil, pick, List.getD_cons_zero, List.getD_cons_succ]
        repeat (go_big_quiet_step (fail))
        refine wpQuiet_nil ?_
        refine flow_done (by kernel_rfl) ?_
        have HO7 : Hid (z5.ownsRow g8 3 1 _ (j + 1 + (n - j)) (intsV (l1 ++ [x] ++ l2))) := Lib.hid (by rw [intsV_app, intsV_app]; exact HO6.out)
        clear HO6 HO5 HO1 HR3 HD4 HZL
        obtain ⟨A5, c5, hv5, hr5⟩ := Row.of_own HO7.out
        subst hv5
        have HR5 := Lib.hid HO7.out
        clear HO7 hr5
        go_wp2_with fail
        go_ret
        have hge : w.heap.size ≤ g8 := by have := HBD.out.size; have := HSE.out; omega
        refine ⟨_, rfl, ?_, HBD.out.trans (HZ.out.mono hge)⟩
        rw [HE.out, show (l1 ++ [x] ++ l2).length = j + 1 + (n - j) by simp [HK1.out, HK2.out]; omega]
        exact own_base HR5.out hge
end Go.Proofs.Ytdildmfjekdlgaa
/- A policy made out of dice. -/
namespace Go.Proofs.Ytdildmfjekdlgaa
open Go.RowKit
theorem own_neqT13 {w : World} {B : Nat} {e : TypeId} {sz : Nat} {v : Value} {n : Nat} {xs : List Value} (h : w.ownsRow B e sz v n xs) {g : Nat} {cs : Array Value} {T : TypeId} {fr : Nat × Nat} (hg : w.heap[g]? = some (.cells cs T fr)) (hne : e ≠ T) : ∀ q, v.ownBlock = some q → q ≠ g := by
  intro q h1 h2
  subst h2
  rcases h.2 with ⟨hn, _⟩ | ⟨a, cap, cur, rfl, ha, hgg, rest⟩
  · subst hn; cases h1
  · have e1 : a = q := by injection h1
    subst e1
    rw [hgg] at hg
    injection hg with hg
    injection hg with _ e2 _
    exact hne e2
/-- A policy that is being made out of dice: its box, its two lists, the graph's box, the result's. -/
structure PM (L D : Nat) (t : List Int) (w : World) (G : Gr) (A9 : Option Addr) (n9 c9 : Nat) (B9 : Option Addr) (m9 k9 : Nat) (q : Nat) (p : Pol) (sv tv : Value) (z : World) : Prop where
  dice : ∃ k, DiceAt z L D t k
  but : But D w z
  dlt : D < w.heap.size
  gx : z.heap[w.heap.size]? = some (.cells #[.int .i64 G.sz, .slice A9 n9 c9, .slice B9 m9 k9] 31 (0, 0))
  rx : z.heap[w.heap.size + 1]? = some (.cells #[.slice none 0 0, .slice none 0 0, .int .i64 0] 24 (0, 0))
  px : z.heap[q]? = some (.cells #[sv, tv, .int .i64 p.lv] 24 (0, 0))
  pq : w.heap.size + 2 ≤ q
  sd : z.ownsRow (w.heap.size + 2) 3 1 sv p.sd.length (intsV p.sd)
  tb : z.ownsRow (w.heap.size + 2) 3 1 tv p.tb.length (intsV p.tb)
  ap : ∀ k, sv.ownBlock = some k → tv.ownBlock ≠ some k
section
variable {L D : Nat} {t : List Int} {w : World} {G : Gr} {A9 : Option Addr} {n9 c9 : Nat} {B9 : Option Addr} {m9 k9 : Nat} {q : Nat} {p : Pol} {sv tv : Value} {z z' : World}
theorem PM.keep (h : PM L D t w G A9 n9 c9 B9 m9 k9 q p sv tv z) (hd : ∃ k, DiceAt z' L D t k) (hb : But D z z') : PM L D t w G A9 n9 c9 B9 m9 k9 q p sv tv z' :=
  { h with
    dice := hd
    but := h.but.trans hb
    gx := (hb.block _ (Array.getElem?_eq_some_iff.1 h.gx).1 (by have := h.dlt; omega)).trans h.gx
    rx := (hb.block _ (Array.getElem?_eq_some_iff.1 h.rx).1 (by have := h.dlt; omega)).trans h.rx
    px := (hb.block _ (Array.getElem?_eq_some_iff.1 h.px).1 (by have := h.dlt; have := h.pq; omega)).trans h.px
    sd := own_keepL h.sd fun k hk => hb.block k (own_lt h.sd k hk) (by have := own_ge h.sd k hk; have := h.dlt; omega)
    tb := own_keepL h.tb fun k hk => hb.block k (own_lt h.tb k hk) (by have := own_ge h.tb k hk; have := h.dlt; omega) }
theorem PM.gave (h : PM L D t w G A9 n9 c9 B9 m9 k9 q p sv tv z) (hg : Gave L D t z z') : PM L D t w G A9 n9 c9 B9 m9 k9 q p sv tv z' := h.keep hg.1 hg.2
theorem PM.later (h : PM L D t w G A9 n9 c9 B9 m9 k9 q p sv tv z) (hb : Below z.heap.size z z') : PM L D t w G A9 n9 c9 B9 m9 k9 q p sv tv z' := h.keep (by obtain ⟨k, hk⟩ := h.dice; exact ⟨k, hk.later hb⟩) (but_of_later hb)
/-- A field of the box turns; what lies behind the boxes may have turned too. -/
theorem PM.cell (h : PM L D t w G A9 n9 c9 B9 m9 k9 q p sv tv z) {p' : Pol} {sv' tv' v : Value} {i : Nat} (hb : Below (w.heap.size + 2) z z') (hx : z'.heap[q]? = z.heap[q]?) (hrow : (#[sv, tv, .int .i64 p.lv] : Array Value).setIfInBounds i v = #[sv', tv', .int .i64 p'.lv])
    (h1 : z'.ownsRow (w.heap.size + 2) 3 1 sv' p'.sd.length (intsV p'.sd)) (h2 : z'.ownsRow (w.heap.size + 2) 3 1 tv' p'.tb.length (intsV p'.tb)) (ha : ∀ k, sv'.ownBlock = some k → tv'.ownBlock ≠ some k) : PM L D t w G A9 n9 c9 B9 m9 k9 q p' sv' tv' (z'.setCell ⟨q, i, none⟩ v) := by
  have hb2 : Below (w.heap.size + 2) z (z'.setCell ⟨q, i, none⟩ v) := hb.setCell (p := ⟨q, i, none⟩) h.pq v
  have hx2 := hx.trans h.px
  have hk : ∀ k, k ≠ q → (z'.setCell ⟨q, i, none⟩ v).heap[k]? = z'.heap[k]? := fun k hk => Below.heap_setCell z' ⟨q, i, none⟩ v k hk
  have hc := heap_setCell_same z' q i _ _ v hx2
  rw [hrow] at hc
  exact {
    dice := by obtain ⟨k, hk⟩ := h.dice; exact ⟨k, hk.below hb2 (by have := h.dlt; omega)⟩
    but := ⟨hb2.os.trans h.but.os, hb2.tape.trans h.but.tape, hb2.output.trans h.but.output, Nat.le_trans h.but.size hb2.size, fun k hk hd => (hb2.block k (by omega)).trans (h.but.block k hk hd)⟩
    dlt := h.dlt
    gx := (hb2.block _ (by omega)).trans h.gx
    rx := (hb2.block _ (by omega)).trans h.rx
    px := hc
    pq := h.pq
    sd := own_keepL h1 fun k hq => hk k (own_neqT13 h1 hx2 (by decide) k hq)
    tb := own_keepL h2 fun k hq => hk k (own_neqT13 h2 hx2 (by decide) k hq)
    ap := ha }
end
theorem set_one {x z : Int} (h0 : 0 ≤ x) (h1 : x < z) : setB [x] z = true := setB_yes fun i hi => by
  have h : i = 0 := by simpa using hi
  subst h
  show okSet [x] z 0 = true
  unfold okSet
  rw [decide_eq_true (by simpa using h0), decide_eq_true (by simpa using h1)]
  rfl
theorem set_two {x y z : Int} (h0 : 0 ≤ x) (h1 : x < y) (h2 : y < z) : setB [x, y] z = true := setB_yes fun i hi => by
  have h : i = 0 ∨ i = 1 := by have : i < 2 := by simpa using hi
                               omega
  rcases h with rfl | rfl
  · unfold okSet
    rw [decide_eq_true (show (0 : Int) ≤ ([x, y] : List Int).getD 0 0 by simpa using h0), decide_eq_true (show ([x, y] : List Int).getD 0 0 < z by show x < z; omega)]
    rfl
  · unfold okSet
    rw [decide_eq_true (show (0 : Int) ≤ ([x, y] : List Int).getD 1 0 by show 0 ≤ y; omega), decide_eq_true (show ([x, y] : List Int).getD 1 0 < z by show y < z; omega), decide_eq_true (show ([x, y] : List Int).getD (1 - 1) 0 < ([x, y] : List Int).getD 1 0 by show x < y; omega)]
    rw [Bool.or_true]; rfl
theorem set_put {x y z : Int} (h0 : 0 ≤ x) (h1 : x < z) (h2 : 0 ≤ y) (h3 : y < z) : setB (putI [x] y) z = true ∧ (putI [x] y).length ≠ 0 := by
  unfold putI putAt
  by_cases h : x < y
  · rw [if_pos h]
    unfold putAt
    rw [if_neg (by simp)]
    exact ⟨set_two h0 h h3, by simp⟩
  · rw [if_neg h]
    by_cases e : x = y
    · subst e
      rw [if_pos (by simp)]
      exact ⟨set_one h0 h1, by simp⟩
    · rw [if_neg (by simp; exact e)]
      exact ⟨set_two h2 (by omega) h1, by simp⟩
theorem bn_set {D n q : Nat} {i : Nat} {z : World} (h : n ≤ q) (v : Value) : BN D n z (z.setCell ⟨q, i, none⟩ v) := ⟨(Below.refl _ _).setCell (p := ⟨q, i, none⟩) (Nat.zero_le _) v, fun k hk _ => Below.heap_setCell z ⟨q, i, none⟩ v k (by show k ≠ q; omega)⟩
/-- A table that is being made: the next number is at most the last one. -/
def TabUp (l : List Int) (x : Int) : Prop := 1 ≤ x ∧ x ≤ 7 ∧ ∀ i, i < l.length → x ≤ l.getD i 0 ∧ l.getD i 0 ≤ 7 ∧ (0 < i → l.getD i 0 ≤ l.getD (i - 1) 0)
theorem TabUp.snoc {l : List Int} {x y : Int} (h : TabUp l x) (h1 : 1 ≤ y) (h2 : y ≤ x) : TabUp (l ++ [x]) y := by
  obtain ⟨a, b, c⟩ := h
  refine ⟨h1, by omega, fun i hi => ?_⟩
  rw [List.length_append] at hi
  have hi : i < l.length + 1 := hi
  have g : ∀ j, j < l.length → (l ++ [x]).getD j 0 = l.getD j 0 := fun j hj => by rw [List.getD_eq_getElem?_getD, List.getElem?_append_left hj, List.getD_eq_getElem?_getD]
  have g2 : (l ++ [x]).getD l.length 0 = x := by rw [List.getD_eq_getElem?_getD, List.getElem?_append_right (Nat.le_refl _), Nat.sub_self]; rfl
  by_cases hl : i < l.length
  · obtain ⟨d, e, f⟩ := c i hl
    rw [g i hl]
    refine ⟨by omega, e, fun h0 => ?_⟩
    rw [g (i - 1) (by omega)]
    exact f h0
  · have : i = l.length := by omega
    subst this
    rw [g2]
    refine ⟨h2, b, fun h0 => ?_⟩
    rw [g _ (by omega)]
    exact (c _ (by omega)).1
theorem TabUp.good {l : List Int} {x : Int} (h : TabUp l x) (h1 : 1 ≤ l.length) (h2 : l.length ≤ 8) : GoodT l :=
  ⟨h2, h1, fun i hi => by obtain ⟨a, b, c⟩ := h; obtain ⟨d, e, f⟩ := c i hi; exact ⟨by omega, by omega, f⟩⟩
end Go.Proofs.Ytdildmfjekdlgaa
/- The walk of trustflowmade's dice: Some. -/
namespace Go.Proofs.Ytdildmfjekdlgaa
open Go.RowKit
set_option maxRecDepth 20000 in
set_option maxHeartbeats 1000000 in
theorem some_any (L D : Nat) (t : List Int) (k : Nat) (n : Nat) (w : World) (h : DiceAt w L D t k) (hn : n ≤ 100000) :
    Calls Try.prog 15 #[.pointer (some ⟨D, 0, none⟩), .int .i64 n] w fun e w' => ∃ v, e = .returned v ∧ IOwn w' w.heap.size v (diceSs t n k).1 ∧ DiceAt w' L D t (diceSs t n k).2 ∧ But D w w' := by
  have H := Lib.hid h; have hD := h.lt; clear h
  go_enter Try.func15, Try.ntmps15
  go_wp2_with fail
  go_loopw [5, 6] (fun v i wr => ∃ j : Nat, j ≤ n ∧ i = .int .i64 j ∧ Hid (IOwn wr w.heap.size v (diceSs t j k).1 ∧ DiceAt wr L D t (diceSs t j k).2 ∧ But D w wr)) (fun _ i _ => n - (intOf i).toNat)
  case atStart => exact ⟨0, by omega, rfl, Lib.hid ⟨World.ownsRow_nil _ _ _ _, H.out, But.refl _ _⟩⟩
  case round =>
    obtain ⟨j, hj, rfl, HQ⟩ := hrel
    have hlen := Lib.hid (diceSs_len t j k)
    by_cases hlt : j < n
    · have hbd := diceV_bd t (diceSs t j k).2 3 (by omega)
      go_wp2_with fail
      refine (next_any L D t (diceSs t j k).2 3 wr HQ.out.2.1 (by omega) (by omega)).mono ?_
      rintro e w2 ⟨rfl, hd, hb⟩
      have ho : IOwn w2 w.heap.size _ (diceSs t j k).1 := own_but HQ.out.1 hb hD
      have hb2 := HQ.out.2.2.trans hb
      have HN : Hid (diceSs t (j + 1) k = (if diceV t (diceSs t j k).2 3 = 0 then (diceSs t j k).1 ++ [(j : Int)] else (diceSs t j k).1, diceK t (diceSs t j k).2)) := Lib.hid rfl
      generalize diceV t (diceSs t j k).2 3 = x at hbd HN ⊢
      have HO := Lib.hid ho; have HD2 := Lib.hid hd; have HB2 := Lib.hid hb2; clear ho hd hb hb2
      by_cases hx : x = 0
      · have g : decide (x = 0) = true := decide_eq_true hx
        have g1 : (x == 0) = true := by simpa using hx
        have HX := Lib.hid hx; clear hx
        go_wp2_with (at_builtin; go_must (refine wpList_app_new w2 rfl (.tmp 15) (.tmp 17) 22 3 rfl w.heap.size Try.underlying22 i64_info rfl _ _ _ HO.out rfl 1 #[.int .i64 j] rfl (by simp [Value.oneCell']) rfl rfl (by have := hlen.out; unfold maxLen; omega) (by have := hlen.out; omega) HB2.out.size ?_); intro v3 w3 ho3 hb3; have HO3 := Lib.hid ho3; have HB3 := Lib.hid hb3; clear ho3 hb3)
        refine ⟨⟨j + 1, by omega, by go_num, Lib.hid ⟨?_, ?_, ?_⟩⟩, by simp [intOf]; omega⟩
        · rw [HN.out, if_pos HX.out]
          unfold IOwn
          rw [intsV_app, List.length_append]
          exact HO3.out
        · rw [HN.out]; exact HD2.out.below HB3.out hD
        · exact HB2.out.grow HB3.out
      · have g : decide (x = 0) = false := decide_eq_false hx
        have g1 : (x == 0) = false := by simpa using hx
        have HX := Lib.hid hx; clear hx
        go_wp2
        refine ⟨⟨j + 1, by omega, by go_num, Lib.hid ⟨?_, ?_, HB2.out⟩⟩, by simp [intOf]; omega⟩
        · rw [HN.out, if_neg HX.out]; exact HO.out
        · rw [HN.out]; exact HD2.out
    · have HJ : Hid (j = n) := by unfold Hid; omega
      go_wp2
      go_ret
      rw [← HJ.out]
      exact ⟨_, rfl, HQ.out.1, HQ.out.2.1, HQ.out.2.2⟩
end Go.Proofs.Ytdildmfjekdlgaa
