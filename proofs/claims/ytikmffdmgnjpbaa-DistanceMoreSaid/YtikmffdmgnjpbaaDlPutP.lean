import Derived.Test.YtikmffdmgnjpbaaPackAP
import Derived.Test.YtikmffdmgnjpbaaPackAQ
import Derived.Test.YtikmffdmgnjpbaaPackAB
import Derived.Test.YtikmffdmgnjpbaaPackAK
import Derived.Test.YtikmffdmgnjpbaaPackAJ
/- The walk of the reference's Put. -/
namespace Go.Proofs.Ytikmffdmgnjpbaa
open Go.RowKit
theorem IRow.take12 {w : World} {A : Option Addr} {n c : Nat} {l : List Int} (h : IRow w A n c l) (k : Nat) (hk : k ≤ n) : IRow w A k c (l.take k) := by
  have h1 := Row.take h k hk
  rw [Nat.mul_one, show (intsV l).take k = intsV (l.take k) from (by unfold intsV; rw [List.map_take])] at h1
  exact h1
theorem IRow.drop12 {w : World} {A : Option Addr} {n c : Nat} {l : List Int} (h : IRow w A n c l) (k : Nat) (hk : k ≤ n) : IRow w (dropA A c k 1) (n - k) (c - k) (l.drop k) := by
  have h1 := Row.drop h k hk
  rw [Nat.mul_one, show (intsV l).drop k = intsV (l.drop k) from (by unfold intsV; rw [List.map_drop])] at h1
  exact h1
set_option maxRecDepth 100000 in
set_option maxHeartbeats 4000000 in
theorem put12_any (A : Option Addr) (n c : Nat) (l : List Int) (x : Int) (w : World) (h : IRow w A n c l) (hn : n ≤ 100000) : Calls Try.prog 20 #[.slice A n c, .int .i64 x] w (GivesI w (putI l x)) := by
  have hln : l.length = n := h.len
  obtain ⟨K, hK⟩ : ∃ K, putAt x l = K := ⟨_, rfl⟩
  have HKN : Hid (K ≤ n) := Lib.hid (by rw [← hK, ← hln]; exact putAt_le x l)
  have HLO : Hid (∀ i, i < K → l.getD i 0 < x) := Lib.hid fun i hi => putAt_low x l i (by rw [hK]; exact hi)
  have HAT : Hid (K < n → ¬ l.getD K 0 < x) := Lib.hid fun hi => by
    have h := putAt_at x l (by rw [hK, hln]; exact hi)
    rw [hK] at h
    exact h
  have HP1 : Hid (K < n → l.getD K 0 = x → putI l x = l) := Lib.hid fun h1 h2 => by
    unfold putI
    rw [hK, hln, if_pos ⟨h1, h2⟩]
  have HP2 : Hid (¬ (K < n ∧ l.getD K 0 = x) → putI l x = l.take K ++ [x] ++ l.drop K) := Lib.hid fun h1 => by
    unfold putI
    rw [hK, hln, if_neg h1]
    simp
  have H := Lib.hid h
  clear h hln hK
  go_enter Try.func20, Try.ntmps20
  go_wp2_with fail
  go_loopw [5] (fun i wr => ∃ j : Nat, j ≤ K ∧ i = .int .i64 j ∧ Hid (Below w.heap.size w wr)) (fun i _ => n - (intOf i).toNat)
  case atStart => exact ⟨0, Nat.zero_le _, rfl, Lib.hid (Below.refl _ _)⟩
  case round =>
    obtain ⟨j, hj, rfl, HB⟩ := hrel
    have hkn := HKN.out
    by_cases hlt : j < n
    · have hlt2 : (j : Int) < (n : Int) := by omega
      obtain ⟨bo, oo, hAo, hcell⟩ := IRow.cell (H.out.later HB.out) j hlt
      subst hAo
      by_cases hjk : j < K
      · have hjx := HLO.out j hjk
        obtain ⟨y, hy⟩ : ∃ y, l.getD j 0 = y := ⟨_, rfl⟩
        rw [hy] at hcell hjx
        have d1 : decide (y < x) = true := decide_eq_true hjx
        clear hjx hy
        go_wp2_with fail
        clear d1 hcell
        exact ⟨⟨j + 1, hjk, by go_num, HB⟩, by simp [intOf]; omega⟩
      · obtain rfl : j = K := by omega
        have hcn := HAT.out hlt
        have HE1 := Lib.hid (HP1.out hlt)
        have HE2 := Lib.hid fun h : l.getD j 0 ≠ x => HP2.out (fun q => h q.2)
        obtain ⟨y, hy⟩ : ∃ y, l.getD j 0 = y := ⟨_, rfl⟩
        rw [hy] at hcell hcn HE1 HE2
        have d1 : decide (y < x) = false := decide_eq_false (by omega)
        clear hcn hy hjk HP1 HP2 HLO HAT
        by_cases he : y = x
        · have d2 : (y == x) = true := by rw [he]; simp
          have d2' : decide (y = x) = true := decide_eq_true he
          have HE := Lib.hid (HE1.out he)
          clear he HE1 HE2
          go_upto_region 5 with fail
          go_wp2_with (at_builtin; go_must (refine wpList_app wr rfl (.const (.slice none 0 0)) (.tmp 32) 22 22 3 rfl w.heap.size Try.underlying22 i64_info rfl _ 0 [] (World.ownsRow_nil _ _ _ _) rfl _ n (intsV l) (Row.src (H.out.later HB.out) Try.underlying22 (intsV_one _)) rfl (by unfold maxLen; omega) (by omega) HB.out.size ?_); intro v1 z1 ho hb; rw [Nat.zero_add, List.nil_append] at ho; have HO1 := Lib.hid ho; have HF := Lib.hid hb; clear ho hb)
          obtain ⟨A5, c5, hv5, hr5⟩ := Row.of_own HO1.out
          subst hv5
          have HR5 := Lib.hid hr5
          clear HO1 hr5 d1 d2 d2' hcell
          go_wp2_with fail
          go_ret
          exact ⟨_, _, _, rfl, by rw [HE.out]; exact HR5.out, HB.out.trans HF.out⟩
        · have d2 : (y == x) = false := by rw [beq_eq_false_iff_ne]; exact he
          have d2' : decide (y = x) = false := decide_eq_false he
          have HE := Lib.hid (HE2.out he)
          clear he HE1 HE2
          go_upto_region 6 with fail
          have hs1 := fun w' => run_slice_to (P := Try.prog) (t := 22) Try.underlying22 i64_size (w0 := wr) (H.out.later HB.out) (i := (j : Int)) rfl hkn .i64 w'
          have hs2 := fun w' => run_slice_from (P := Try.prog) (t := 22) Try.underlying22 i64_size (A := some ⟨bo, oo, none⟩) (n := n) (c := c) (k := j) (i := (j : Int)) rfl hkn .i64 w'
          obtain ⟨g8, hg8⟩ : ∃ g8, wr.heap.size = g8 := ⟨_, rfl⟩
          refine wp_region_flow (by kernel_rfl) (Below g8) ?_
          have HBD : Hid (Below w.heap.size w wr.drew) := Lib.hid HB.out.drew
          have HN0 : Hid (g8 ≤ wr.drew.heap.size) := Lib.hid (Nat.le_of_eq hg8.symm)
          have HSE : Hid (wr.drew.heap.size = g8) := Lib.hid hg8
          clear HB hg8
          generalize wr.drew = z0 at *
          have HVD : Hid (IRow z0 (some ⟨bo, oo, none⟩) n c l) := Lib.hid (H.out.later HBD.out)
          have HLT := Lib.hid (HVD.out.take12 j hkn)
          have HLD := Lib.hid (HVD.out.drop12 j hkn)
          have HZ : Hid (Below g8 z0 z0) := Lib.hid (Below.refl _ _)
          clear HVD
          generalize dropA (some ⟨bo, oo, none⟩) c j 1 = AD at hs2 HLD
          generalize l.take j = l1 at *
          generalize l.drop j = l2 at *
          have hk1 : l1.length = j := HLT.out.len
          have hk2 : l2.length = n - j := HLD.out.len
          refine flow_reads (F := Below g8) (fun _ => Below.refl _ _) (by kernel_rfl) [0, 1, 2, 4, 7, 8, 9] (fuel := 5) (by kernel_rfl) ?_
          simp only [List.map_cons, List.map_nil, pick, List.getD_cons_zero, List.getD_cons_succ]
          repeat (go_big_quiet_step (fail))
          refine wpQuiet_nil ?_
          clear hs1 hs2
          refine flow_two (F := Below g8) (fun _ _ _ => Below.trans) (fun _ => Below.refl _ _) 3 5 (by kernel_rfl) (by decide) (by decide) ?_ ?_ <;> simp only [pick, List.getD_cons_zero, List.getD_cons_succ]
          · have HZL : Hid (Below z0.heap.size z0 z0) := Lib.hid (by have h := HZ.out; rw [← HSE.out] at h; exact h)
            go_wp2_with (at_builtin; go_must (refine wpList_app z0 rfl (.const (.slice none 0 0)) (.tmp 36) 22 22 3 rfl g8 Try.underlying22 i64_info rfl _ 0 [] (World.ownsRow_nil _ _ _ _) rfl _ j (intsV l1) (Row.src (HLT.out.later HZL.out) Try.underlying22 (intsV_one _)) rfl (by unfold maxLen; omega) (by omega) HN0.out ?_); intro v1 z1 ho hb; rw [Nat.zero_add, List.nil_append] at ho; have HO1 := Lib.hid ho; have HF := Lib.hid hb; replace HZ := Lib.hid (HZ.out.trans hb); replace HN0 := Lib.hid (Nat.le_trans HN0.out hb.size); clear ho hb)
            refine pieceEnd_normal ⟨HF.out, ?_⟩
            clear HF HZL
            refine flow_one (F := Below g8) (fun _ _ _ => Below.trans) (fun _ => Below.refl _ _) 5 (by kernel_rfl) (by decide) ?_
            simp only [pick, List.getD_cons_zero, List.getD_cons_succ]
            go_wp2_with fail
            have hb : Below g8 z1 (z1.alloc (.cells #[.int .i64 x] 3)) := (one_new z1 _).mono HN0.out
            refine pieceEnd_normal ⟨hb, ?_⟩
            have HR3 : Hid (Row (z1.alloc (.cells #[.int .i64 x] 3)) (some ⟨z1.heap.size, 0, none⟩) 1 1 1 (intsV [x])) := Lib.hid (Row.of_block (heap_alloc_new _ _) rfl)
            replace HO1 := Lib.hid (World.ownsRow.alloc HO1.out (.cells #[.int .i64 x] 3))
            replace HZ := Lib.hid (HZ.out.trans hb); replace HN0 := Lib.hid (Nat.le_trans HN0.out hb.size)
            clear hb
            obtain ⟨g3, hg3⟩ : ∃ g3, z1.heap.size = g3 := ⟨_, rfl⟩
            rw [hg3] at HR3 ⊢
            clear hg3
            generalize z1.alloc (.cells #[.int .i64 x] 3) = z2 at *
            refine flow_one (F := Below g8) (fun _ _ _ => Below.trans) (fun _ => Below.refl _ _) 6 (by kernel_rfl) (by decide) ?_
            simp only [pick, List.getD_cons_zero, List.getD_cons_succ]
            go_wp2_with (at_builtin; go_must (refine wpList_app2 z2 rfl (.tmp 37) (.tmp 39) 22 22 3 rfl g8 Try.underlying22 i64_info rfl _ j _ HO1.out rfl _ 1 (intsV [x]) (Row.src HR3.out Try.underlying22 (intsV_one _)) rfl (by unfold maxLen; omega) (by omega) HN0.out ?_); intro v4 z4 ho hb hkp hv; have HO5 := Lib.hid ho; have HF := Lib.hid hb; replace HZ := Lib.hid (HZ.out.trans hb); replace HN0 := Lib.hid (Nat.le_trans HN0.out hb.size); clear ho hb hkp hv)
            refine pieceEnd_normal ⟨HF.out, ?_⟩
            clear HF
            have HZL : Hid (Below z0.heap.size z0 z4) := Lib.hid (by have h := HZ.out; rw [← HSE.out] at h; exact h)
            have HD4 : Hid (IRow z4 AD (n - j) (c - j) l2) := Lib.hid (HLD.out.later HZL.out)
            refine flow_one (F := Below g8) (fun _ _ _ => Below.trans) (fun _ => Below.refl _ _) 10 (by kernel_rfl) (by decide) ?_
            simp only [pick, List.getD_cons_zero, List.getD_cons_succ]
            go_wp2_with (at_builtin; go_must (refine wpList_app2 z4 rfl (.tmp 40) (.tmp 43) 22 22 3 rfl g8 Try.underlying22 i64_info rfl _ (j + 1) _ HO5.out rfl _ (n - j) (intsV l2) (Row.src HD4.out Try.underlying22 (intsV_one _)) rfl (by unfold maxLen; omega) (by omega) HN0.out ?_); intro v4 z5 ho hb hkp hv; have HO6 := Lib.hid ho; have HF := Lib.hid hb; replace HZ := Lib.hid (HZ.out.trans hb); replace HN0 := Lib.hid (Nat.le_trans HN0.out hb.size); clear ho hb hkp hv)
            refine pieceEnd_normal ⟨HF.out, ?_⟩
            clear HF
            refine flow_reads (F := Below g8) (fun _ => Below.refl _ _) (by kernel_rfl) [11] (fuel := 0) (by kernel_rfl) ?_
            simp only [List.map_cons, List.map_nil, pick, List.getD_cons_zero, List.getD_cons_succ]
            repeat (go_big_quiet_step (fail))
            refine wpQuiet_nil ?_
            refine flow_done (by kernel_rfl) ?_
            have HO7 : Hid (z5.ownsRow g8 3 1 _ (j + 1 + (n - j)) (intsV (l1 ++ [x] ++ l2))) := Lib.hid (by rw [intsV_app, intsV_app]; exact HO6.out)
            clear HO6 HO5 HO1 HR3 HD4 HZL
            obtain ⟨A5, c5, hv5, hr5⟩ := Row.of_own HO7.out
            subst hv5
            have HR5 := Lib.hid hr5
            clear HO7 hr5
            go_wp2_with fail
            go_ret
            exact ⟨_, _, _, rfl, by rw [HE.out]; exact HR5.out, HBD.out.trans (HZ.out.mono (by have := HBD.out.size; have := HSE.out; omega))⟩
          · skip
            go_wp2_with fail
            have hb : Below g8 z0 (z0.alloc (.cells #[.int .i64 x] 3)) := (one_new z0 _).mono HN0.out
            refine pieceEnd_normal ⟨hb, ?_⟩
            have HR3 : Hid (Row (z0.alloc (.cells #[.int .i64 x] 3)) (some ⟨z0.heap.size, 0, none⟩) 1 1 1 (intsV [x])) := Lib.hid (Row.of_block (heap_alloc_new _ _) rfl)
            replace HZ := Lib.hid (HZ.out.trans hb); replace HN0 := Lib.hid (Nat.le_trans HN0.out hb.size)
            clear hb
            obtain ⟨g3, hg3⟩ : ∃ g3, z0.heap.size = g3 := ⟨_, rfl⟩
            rw [hg3] at HR3 ⊢
            clear hg3
            generalize z0.alloc (.cells #[.int .i64 x] 3) = z1 at *
            refine flow_one (F := Below g8) (fun _ _ _ => Below.trans) (fun _ => Below.refl _ _) 3 (by kernel_rfl) (by decide) ?_
            simp only [pick, List.getD_cons_zero, List.getD_cons_succ]
            have HZL : Hid (Below z0.heap.size z0 z1) := Lib.hid (by have h := HZ.out; rw [← HSE.out] at h; exact h)
            go_wp2_with (at_builtin; go_must (refine wpList_app2 z1 rfl (.const (.slice none 0 0)) (.tmp 36) 22 22 3 rfl g8 Try.underlying22 i64_info rfl _ 0 [] (World.ownsRow_nil _ _ _ _) rfl _ j (intsV l1) (Row.src (HLT.out.later HZL.out) Try.underlying22 (intsV_one _)) rfl (by unfold maxLen; omega) (by omega) HN0.out ?_); intro v1 z2 ho hb hkp hv; rw [Nat.zero_add, List.nil_append] at ho; have HO1 := Lib.hid ho; have HF := Lib.hid hb; replace HR3 := Lib.hid (Row.keep HR3.out fun ad _ _ hlt => hkp _ hlt (fun e => by cases e)); replace HZ := Lib.hid (HZ.out.trans hb); replace HN0 := Lib.hid (Nat.le_trans HN0.out hb.size); clear ho hb hkp hv)
            refine pieceEnd_normal ⟨HF.out, ?_⟩
            clear HF HZL
            refine flow_one (F := Below g8) (fun _ _ _ => Below.trans) (fun _ => Below.refl _ _) 6 (by kernel_rfl) (by decide) ?_
            simp only [pick, List.getD_cons_zero, List.getD_cons_succ]
            go_wp2_with (at_builtin; go_must (refine wpList_app2 z2 rfl (.tmp 37) (.tmp 39) 22 22 3 rfl g8 Try.underlying22 i64_info rfl _ j _ HO1.out rfl _ 1 (intsV [x]) (Row.src HR3.out Try.underlying22 (intsV_one _)) rfl (by unfold maxLen; omega) (by omega) HN0.out ?_); intro v4 z4 ho hb hkp hv; have HO5 := Lib.hid ho; have HF := Lib.hid hb; replace HZ := Lib.hid (HZ.out.trans hb); replace HN0 := Lib.hid (Nat.le_trans HN0.out hb.size); clear ho hb hkp hv)
            refine pieceEnd_normal ⟨HF.out, ?_⟩
            clear HF
            have HZL : Hid (Below z0.heap.size z0 z4) := Lib.hid (by have h := HZ.out; rw [← HSE.out] at h; exact h)
            have HD4 : Hid (IRow z4 AD (n - j) (c - j) l2) := Lib.hid (HLD.out.later HZL.out)
            refine flow_one (F := Below g8) (fun _ _ _ => Below.trans) (fun _ => Below.refl _ _) 10 (by kernel_rfl) (by decide) ?_
            simp only [pick, List.getD_cons_zero, List.getD_cons_succ]
            go_wp2_with (at_builtin; go_must (refine wpList_app2 z4 rfl (.tmp 40) (.tmp 43) 22 22 3 rfl g8 Try.underlying22 i64_info rfl _ (j + 1) _ HO5.out rfl _ (n - j) (intsV l2) (Row.src HD4.out Try.underlying22 (intsV_one _)) rfl (by unfold maxLen; omega) (by omega) HN0.out ?_); intro v4 z5 ho hb hkp hv; have HO6 := Lib.hid ho; have HF := Lib.hid hb; replace HZ := Lib.hid (HZ.out.trans hb); replace HN0 := Lib.hid (Nat.le_trans HN0.out hb.size); clear ho hb hkp hv)
            refine pieceEnd_normal ⟨HF.out, ?_⟩
            clear HF
            refine flow_reads (F := Below g8) (fun _ => Below.refl _ _) (by kernel_rfl) [11] (fuel := 0) (by kernel_rfl) ?_
            simp only [List.map_cons, List.map_nil, pick, List.getD_cons_zero, List.getD_cons_succ]
            repeat (go_big_quiet_step (fail))
            refine wpQuiet_nil ?_
            refine flow_done (by kernel_rfl) ?_
            have HO7 : Hid (z5.ownsRow g8 3 1 _ (j + 1 + (n - j)) (intsV (l1 ++ [x] ++ l2))) := Lib.hid (by rw [intsV_app, intsV_app]; exact HO6.out)
            clear HO6 HO5 HO1 HR3 HD4 HZL
            obtain ⟨A5, c5, hv5, hr5⟩ := Row.of_own HO7.out
            subst hv5
            have HR5 := Lib.hid hr5
            clear HO7 hr5
            go_wp2_with fail
            go_ret
            exact ⟨_, _, _, rfl, by rw [HE.out]; exact HR5.out, HBD.out.trans (HZ.out.mono (by have := HBD.out.size; have := HSE.out; omega))⟩
    · have hlt2 : ¬ (j : Int) < (n : Int) := by omega
      obtain rfl : j = K := by omega
      have HE := Lib.hid (HP2.out (fun q => hlt q.1))
      clear HP1 HP2 HLO HAT
      go_upto_region 6 with fail
      have hs1 := fun w' => run_slice_to (P := Try.prog) (t := 22) Try.underlying22 i64_size (w0 := wr) (H.out.later HB.out) (i := (j : Int)) rfl hkn .i64 w'
      have hs2 := fun w' => run_slice_from (P := Try.prog) (t := 22) Try.underlying22 i64_size (A := A) (n := n) (c := c) (k := j) (i := (j : Int)) rfl hkn .i64 w'
      obtain ⟨g8, hg8⟩ : ∃ g8, wr.heap.size = g8 := ⟨_, rfl⟩
      refine wp_region_flow (by kernel_rfl) (Below g8) ?_
      have HBD : Hid (Below w.heap.size w wr.drew) := Lib.hid HB.out.drew
      have HN0 : Hid (g8 ≤ wr.drew.heap.size) := Lib.hid (Nat.le_of_eq hg8.symm)
      have HSE : Hid (wr.drew.heap.size = g8) := Lib.hid hg8
      clear HB hg8
      generalize wr.drew = z0 at *
      have HVD : Hid (IRow z0 (A) n c l) := Lib.hid (H.out.later HBD.out)
      have HLT := Lib.hid (HVD.out.take12 j hkn)
      have HLD := Lib.hid (HVD.out.drop12 j hkn)
      have HZ : Hid (Below g8 z0 z0) := Lib.hid (Below.refl _ _)
      clear HVD
      generalize dropA (A) c j 1 = AD at hs2 HLD
      generalize l.take j = l1 at *
      generalize l.drop j = l2 at *
      have hk1 : l1.length = j := HLT.out.len
      have hk2 : l2.length = n - j := HLD.out.len
      refine flow_reads (F := Below g8) (fun _ => Below.refl _ _) (by kernel_rfl) [0, 1, 2, 4, 7, 8, 9] (fuel := 5) (by kernel_rfl) ?_
      simp only [List.map_cons, List.map_nil, pick, List.getD_cons_zero, List.getD_cons_succ]
      repeat (go_big_quiet_step (fail))
      refine wpQuiet_nil ?_
      clear hs1 hs2
      refine flow_two (F := Below g8) (fun _ _ _ => Below.trans) (fun _ => Below.refl _ _) 3 5 (by kernel_rfl) (by decide) (by decide) ?_ ?_ <;> simp only [pick, List.getD_cons_zero, List.getD_cons_succ]
      · have HZL : Hid (Below z0.heap.size z0 z0) := Lib.hid (by have h := HZ.out; rw [← HSE.out] at h; exact h)
        go_wp2_with (at_builtin; go_must (refine wpList_app z0 rfl (.const (.slice none 0 0)) (.tmp 36) 22 22 3 rfl g8 Try.underlying22 i64_info rfl _ 0 [] (World.ownsRow_nil _ _ _ _) rfl _ j (intsV l1) (Row.src (HLT.out.later HZL.out) Try.underlying22 (intsV_one _)) rfl (by unfold maxLen; omega) (by omega) HN0.out ?_); intro v1 z1 ho hb; rw [Nat.zero_add, List.nil_append] at ho; have HO1 := Lib.hid ho; have HF := Lib.hid hb; replace HZ := Lib.hid (HZ.out.trans hb); replace HN0 := Lib.hid (Nat.le_trans HN0.out hb.size); clear ho hb)
        refine pieceEnd_normal ⟨HF.out, ?_⟩
        clear HF HZL
        refine flow_one (F := Below g8) (fun _ _ _ => Below.trans) (fun _ => Below.refl _ _) 5 (by kernel_rfl) (by decide) ?_
        simp only [pick, List.getD_cons_zero, List.getD_cons_succ]
        go_wp2_with fail
        have hb : Below g8 z1 (z1.alloc (.cells #[.int .i64 x] 3)) := (one_new z1 _).mono HN0.out
        refine pieceEnd_normal ⟨hb, ?_⟩
        have HR3 : Hid (Row (z1.alloc (.cells #[.int .i64 x] 3)) (some ⟨z1.heap.size, 0, none⟩) 1 1 1 (intsV [x])) := Lib.hid (Row.of_block (heap_alloc_new _ _) rfl)
        replace HO1 := Lib.hid (World.ownsRow.alloc HO1.out (.cells #[.int .i64 x] 3))
        replace HZ := Lib.hid (HZ.out.trans hb); replace HN0 := Lib.hid (Nat.le_trans HN0.out hb.size)
        clear hb
        obtain ⟨g3, hg3⟩ : ∃ g3, z1.heap.size = g3 := ⟨_, rfl⟩
        rw [hg3] at HR3 ⊢
        clear hg3
        generalize z1.alloc (.cells #[.int .i64 x] 3) = z2 at *
        refine flow_one (F := Below g8) (fun _ _ _ => Below.trans) (fun _ => Below.refl _ _) 6 (by kernel_rfl) (by decide) ?_
        simp only [pick, List.getD_cons_zero, List.getD_cons_succ]
        go_wp2_with (at_builtin; go_must (refine wpList_app2 z2 rfl (.tmp 37) (.tmp 39) 22 22 3 rfl g8 Try.underlying22 i64_info rfl _ j _ HO1.out rfl _ 1 (intsV [x]) (Row.src HR3.out Try.underlying22 (intsV_one _)) rfl (by unfold maxLen; omega) (by omega) HN0.out ?_); intro v4 z4 ho hb hkp hv; have HO5 := Lib.hid ho; have HF := Lib.hid hb; replace HZ := Lib.hid (HZ.out.trans hb); replace HN0 := Lib.hid (Nat.le_trans HN0.out hb.size); clear ho hb hkp hv)
        refine pieceEnd_normal ⟨HF.out, ?_⟩
        clear HF
        have HZL : Hid (Below z0.heap.size z0 z4) := Lib.hid (by have h := HZ.out; rw [← HSE.out] at h; exact h)
        have HD4 : Hid (IRow z4 AD (n - j) (c - j) l2) := Lib.hid (HLD.out.later HZL.out)
        refine flow_one (F := Below g8) (fun _ _ _ => Below.trans) (fun _ => Below.refl _ _) 10 (by kernel_rfl) (by decide) ?_
        simp only [pick, List.getD_cons_zero, List.getD_cons_succ]
        go_wp2_with (at_builtin; go_must (refine wpList_app2 z4 rfl (.tmp 40) (.tmp 43) 22 22 3 rfl g8 Try.underlying22 i64_info rfl _ (j + 1) _ HO5.out rfl _ (n - j) (intsV l2) (Row.src HD4.out Try.underlying22 (intsV_one _)) rfl (by unfold maxLen; omega) (by omega) HN0.out ?_); intro v4 z5 ho hb hkp hv; have HO6 := Lib.hid ho; have HF := Lib.hid hb; replace HZ := Lib.hid (HZ.out.trans hb); replace HN0 := Lib.hid (Nat.le_trans HN0.out hb.size); clear ho hb hkp hv)
        refine pieceEnd_normal ⟨HF.out, ?_⟩
        clear HF
        refine flow_reads (F := Below g8) (fun _ => Below.refl _ _) (by kernel_rfl) [11] (fuel := 0) (by kernel_rfl) ?_
        simp only [List.map_cons, List.map_nil, pick, List.getD_cons_zero, List.getD_cons_succ]
        repeat (go_big_quiet_step (fail))
        refine wpQuiet_nil ?_
        refine flow_done (by kernel_rfl) ?_
        have HO7 : Hid (z5.ownsRow g8 3 1 _ (j + 1 + (n - j)) (intsV (l1 ++ [x] ++ l2))) := Lib.hid (by rw [intsV_app, intsV_app]; exact HO6.out)
        clear HO6 HO5 HO1 HR3 HD4 HZL
        obtain ⟨A5, c5, hv5, hr5⟩ := Row.of_own HO7.out
        subst hv5
        have HR5 := Lib.hid hr5
        clear HO7 hr5
        go_wp2_with fail
        go_ret
        exact ⟨_, _, _, rfl, by rw [HE.out]; exact HR5.out, HBD.out.trans (HZ.out.mono (by have := HBD.out.size; have := HSE.out; omega))⟩
      · skip
        go_wp2_with fail
        have hb : Below g8 z0 (z0.alloc (.cells #[.int .i64 x] 3)) := (one_new z0 _).mono HN0.out
        refine pieceEnd_normal ⟨hb, ?_⟩
        have HR3 : Hid (Row (z0.alloc (.cells #[.int .i64 x] 3)) (some ⟨z0.heap.size, 0, none⟩) 1 1 1 (intsV [x])) := Lib.hid (Row.of_block (heap_alloc_new _ _) rfl)
        replace HZ := Lib.hid (HZ.out.trans hb); replace HN0 := Lib.hid (Nat.le_trans HN0.out hb.size)
        clear hb
        obtain ⟨g3, hg3⟩ : ∃ g3, z0.heap.size = g3 := ⟨_, rfl⟩
        rw [hg3] at HR3 ⊢
        clear hg3
        generalize z0.alloc (.cells #[.int .i64 x] 3) = z1 at *
        refine flow_one (F := Below g8) (fun _ _ _ => Below.trans) (fun _ => Below.refl _ _) 3 (by kernel_rfl) (by decide) ?_
        simp only [pick, List.getD_cons_zero, List.getD_cons_succ]
        have HZL : Hid (Below z0.heap.size z0 z1) := Lib.hid (by have h := HZ.out; rw [← HSE.out] at h; exact h)
        go_wp2_with (at_builtin; go_must (refine wpList_app2 z1 rfl (.const (.slice none 0 0)) (.tmp 36) 22 22 3 rfl g8 Try.underlying22 i64_info rfl _ 0 [] (World.ownsRow_nil _ _ _ _) rfl _ j (intsV l1) (Row.src (HLT.out.later HZL.out) Try.underlying22 (intsV_one _)) rfl (by unfold maxLen; omega) (by omega) HN0.out ?_); intro v1 z2 ho hb hkp hv; rw [Nat.zero_add, List.nil_append] at ho; have HO1 := Lib.hid ho; have HF := Lib.hid hb; replace HR3 := Lib.hid (Row.keep HR3.out fun ad _ _ hlt => hkp _ hlt (fun e => by cases e)); replace HZ := Lib.hid (HZ.out.trans hb); replace HN0 := Lib.hid (Nat.le_trans HN0.out hb.size); clear ho hb hkp hv)
        refine pieceEnd_normal ⟨HF.out, ?_⟩
        clear HF HZL
        refine flow_one (F := Below g8) (fun _ _ _ => Below.trans) (fun _ => Below.refl _ _) 6 (by kernel_rfl) (by decide) ?_
        simp only [pick, List.getD_cons_zero, List.getD_cons_succ]
        go_wp2_with (at_builtin; go_must (refine wpList_app2 z2 rfl (.tmp 37) (.tmp 39) 22 22 3 rfl g8 Try.underlying22 i64_info rfl _ j _ HO1.out rfl _ 1 (intsV [x]) (Row.src HR3.out Try.underlying22 (intsV_one _)) rfl (by unfold maxLen; omega) (by omega) HN0.out ?_); intro v4 z4 ho hb hkp hv; have HO5 := Lib.hid ho; have HF := Lib.hid hb; replace HZ := Lib.hid (HZ.out.trans hb); replace HN0 := Lib.hid (Nat.le_trans HN0.out hb.size); clear ho hb hkp hv)
        refine pieceEnd_normal ⟨HF.out, ?_⟩
        clear HF
        have HZL : Hid (Below z0.heap.size z0 z4) := Lib.hid (by have h := HZ.out; rw [← HSE.out] at h; exact h)
        have HD4 : Hid (IRow z4 AD (n - j) (c - j) l2) := Lib.hid (HLD.out.later HZL.out)
        refine flow_one (F := Below g8) (fun _ _ _ => Below.trans) (fun _ => Below.refl _ _) 10 (by kernel_rfl) (by decide) ?_
        simp only [pick, List.getD_cons_zero, List.getD_cons_succ]
        go_wp2_with (at_builtin; go_must (refine wpList_app2 z4 rfl (.tmp 40) (.tmp 43) 22 22 3 rfl g8 Try.underlying22 i64_info rfl _ (j + 1) _ HO5.out rfl _ (n - j) (intsV l2) (Row.src HD4.out Try.underlying22 (intsV_one _)) rfl (by unfold maxLen; omega) (by omega) HN0.out ?_); intro v4 z5 ho hb hkp hv; have HO6 := Lib.hid ho; have HF := Lib.hid hb; replace HZ := Lib.hid (HZ.out.trans hb); replace HN0 := Lib.hid (Nat.le_trans HN0.out hb.size); clear ho hb hkp hv)
        refine pieceEnd_normal ⟨HF.out, ?_⟩
        clear HF
        refine flow_reads (F := Below g8) (fun _ => Below.refl _ _) (by kernel_rfl) [11] (fuel := 0) (by kernel_rfl) ?_
        simp only [List.map_cons, List.map_nil, pick, List.getD_cons_zero, List.getD_cons_succ]
        repeat (go_big_quiet_step (fail))
        refine wpQuiet_nil ?_
        refine flow_done (by kernel_rfl) ?_
        have HO7 : Hid (z5.ownsRow g8 3 1 _ (j + 1 + (n - j)) (intsV (l1 ++ [x] ++ l2))) := Lib.hid (by rw [intsV_app, intsV_app]; exact HO6.out)
        clear HO6 HO5 HO1 HR3 HD4 HZL
        obtain ⟨A5, c5, hv5, hr5⟩ := Row.of_own HO7.out
        subst hv5
        have HR5 := Lib.hid hr5
        clear HO7 hr5
        go_wp2_with fail
        go_ret
        exact ⟨_, _, _, rfl, by rw [HE.out]; exact HR5.out, HBD.out.trans (HZ.out.mono (by have := HBD.out.size; have := HSE.out; omega))⟩
end Go.Proofs.Ytikmffdmgnjpbaa
