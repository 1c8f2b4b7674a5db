import Derived.Test.YtjmapbaofpilaaaPackBA
/- The walk of the law VouchLast, over any program that gives what layer 10 asks. -/
namespace Go.Proofs.Ytjmapbaofpilaaa
open Go.RowKit
theorem nextP_last {c : List Stm} {ends rev : List Int} (h : LastI c ends rev) {T kind a b cc : Int} (hl : c.length ≤ 199) (hT : 0 ≤ T ∧ T ≤ 1000000) (ht : 0 < c.length → (lastL c).time ≤ T)
    (hk : (kind = 1 ∧ 0 ≤ a ∧ a ≤ 63 ∧ a ≠ 3 ∧ 1 ≤ b ∧ b ≤ 3 ∧ T ≤ cc ∧ cc ≤ 2000000) ∨ (kind = 2 ∧ 0 ≤ a ∧ a ≤ 199 ∧ b = 0 ∧ cc = 0)) :
    ∃ x, nextP 3 c (bareD T kind a b cc) = (x, 0) ∧ Ch 3 (c ++ [x]) ∧ x.kind = kind ∧ x.a = a ∧ x.c = cc ∧ x.time = T ∧ x.list = [] ∧ x.pins = [] := by
  have hc := check_bare 3 c T kind a b cc (by omega) hT hl hk
  have hlk : 0 < c.length → (lastL c).kind ≠ 3 := fun h0 => by
    rcases h.each (c.length - 1) (by omega) with g | g <;> (have : (lastL c).kind = _ := g.1; omega)
  refine ⟨sealOf (draftR 3 c (bareD T kind a b cc)), h.ch.next ht hlk hc, h.ch.more ht hlk hc, ?_, ?_, ?_, ?_, ?_, ?_⟩ <;> (unfold draftR; split <;> rfl)
theorem lastL_snoc (c : List Stm) (x : Stm) : lastL (c ++ [x]) = x := by
  unfold lastL
  rw [List.length_append, List.length_singleton, Nat.add_sub_cancel, snoc_eq]
set_option maxRecDepth 100000 in
set_option maxHeartbeats 4000000 in
theorem vlast_any (H : VouchC) (TA : Option Addr) (tn tc : Nat) (t : List Int) (w : World) (ht : IRow w TA tn tc t) :
    Calls Try.prog 5 #[.slice TA tn tc] w (SaysL (.bool true) w) := by
  have HAW : Hid (∀ y, Calls Try.prog 7 #[] y (SaysL (.bool true) y)) := Lib.hid fun y => awake10_any H y
  have HT := Lib.hid ht; clear ht
  go_enter Try.func5, Try.ntmps5
  go_wp2_with fail
  refine (light_any TA tn tc w).mono ?_
  rintro e w0 ⟨rfl, rfl⟩
  by_cases hn : tn ≤ 400
  · have gd : decide (tn ≤ 400) = true := decide_eq_true hn
    go_wp2_with fail
    clear gd
    refine (roll_any w.heap.size TA tn tc t w HT.out (by omega) (Nat.le_refl _) (fun ad e h0 => Row.lt HT.out (by decide) ad e h0)).mono ?_
    rintro e w1 ⟨rfl, hd, hb⟩
    obtain ⟨D, hD⟩ : ∃ D, D = w.heap.size := ⟨_, rfl⟩
    obtain ⟨L, hL⟩ : ∃ L, L = w.heap.size := ⟨_, rfl⟩
    have HR1 : Hid (Rnd L D t w1 w1) := Lib.hid ⟨But.refl _ _, 0, by rw [hL, hD]; exact hd⟩
    have HB := Lib.hid hb
    have HDD : Hid (w.heap.size = D) := Lib.hid hD.symm
    have hDw : D < w1.heap.size := HR1.out.lt
    rw [← hD]
    clear hd hb hD HT hL
    go_wp2_with fail
    refine (next_g L D t 6 w1 HR1.out.dice (by omega) (by omega)).mono ?_
    rintro e w2 ⟨N0, rfl, hN0, hN1, hg⟩
    have HR2 := Lib.hid (HR1.out.gave hg)
    clear hg HR1
    obtain ⟨N1, rfl⟩ : ∃ N : Nat, N0 = (N : Int) := ⟨N0.toNat, by omega⟩
    have HN : Hid (N1 + 1 ≤ 6) := Lib.hid (by omega)
    clear hN0
    go_wp2_with fail
    clear hN1
    go_loopg [4, 5, 6, 7, 8] (N1 + 1) (fun gk v4 v5 v6 i7 i8 wr => ∃ (m : Nat) (tm : Int) (l' : List Pl) (ends rev : List Int), i8 = .int .i64 m ∧ m ≤ gk ∧ i7 = .int .i64 tm ∧ 0 ≤ tm ∧ tm + 4 * (m : Int) ≤ 24 ∧ l'.length + m = N1 + 1 ∧ Hid (LW wr w1.heap.size v4 v5 v6 l' ends rev ∧ Rnd L D t w1 wr) ∧ Hid (LastI (l'.map (·.s)) ends rev) ∧ Hid (0 < l'.length → (lastL (l'.map (·.s))).time ≤ tm))
    case atStart => exact ⟨N1 + 1, 0, [], [], [], by go_num, Nat.le_refl _, rfl, by omega, by have := HN.out; omega, by simp, Lib.hid ⟨LW.nil _ _, HR2.out⟩, Lib.hid LastI.nil, Lib.hid (fun h => absurd h (Nat.lt_irrefl _))⟩
    case round =>
      clear HR2
      obtain ⟨m, tm, l', ends, rev, rfl, hmk, rfl, htm0, htm1, hlm, HQ, HLI, HLT⟩ := hrel
      obtain ⟨A4, c4, hv4, -⟩ := Row.of_own HQ.out.1.o4
      obtain ⟨A5, c5, hv5, -⟩ := Row.of_own HQ.out.1.o5
      obtain ⟨A6, c6, hv6, -⟩ := Row.of_own HQ.out.1.o6
      subst hv4 hv5 hv6
      have hl6 : l'.length ≤ 6 := by have := HN.out; omega
      have HE1 : Hid (ends.length = l'.length) := Lib.hid (by have := HLI.out.len1; rwa [List.length_map] at this)
      have HE2 : Hid (rev.length = l'.length) := Lib.hid (by have := HLI.out.len2; rwa [List.length_map] at this)
      by_cases hm0 : 0 < m
      · have hm2 : (0 : Int) < (m : Int) := by omega
        have hm6 : m ≤ 6 := by have := HN.out; omega
        have hwr : w1.heap.size ≤ wr.heap.size := HQ.out.2.but.size
        have hDr : D < wr.heap.size := HQ.out.2.lt
        have HW : Hid (Rnd L D t wr wr) := Lib.hid ⟨But.refl _ _, HQ.out.2.dice⟩
        go_wp2_with fail
        clear hm2
        refine (next_g L D t 4 wr HW.out.dice (by omega) (by omega)).mono ?_
        rintro e x1 ⟨dv, rfl, hdv0, hdv1, hg⟩
        have HS1 := Lib.hid (HW.out.gave hg)
        clear hg
        have hs0 : 1 ≤ tm + (1 + dv) := by omega
        have hs1 : tm + (1 + dv) + 4 * ((m - 1 : Nat) : Int) ≤ 24 := by omega
        have hs2 : tm ≤ tm + (1 + dv) := by omega
        have hs3 : tm + (1 + dv) ≤ 24 := by omega
        go_wp2_with fail
        generalize hT : tm + (1 + dv) = T at *
        clear hT hdv0 hdv1
        refine (next_g L D t 3 x1 HS1.out.dice (by omega) (by omega)).mono ?_
        rintro e x2 ⟨bv, rfl, hbv0, hbv1, hg⟩
        have HS2 := Lib.hid (HS1.out.gave hg)
        clear hg HS1
        have HO4 : Hid (Row (x2.alloc (.cells #[.int .i64 30, .int .i64 4, .int .i64 0, .int .i64 9] 3)) (some ⟨x2.heap.size, 0, none⟩) 4 4 1 (intsV [30, 4, 0, 9])) := Lib.hid (Row.of_block (heap_alloc_new _ _) rfl)
        have HS3 := Lib.hid (HS2.out.later (one_new x2 (.cells #[.int .i64 30, .int .i64 4, .int .i64 0, .int .i64 9] 3)))
        have hDx : D < x2.heap.size := HS2.out.lt
        go_wp2_with fail
        refine (of_g L D t (some ⟨x2.heap.size, 0, none⟩) 4 4 [30, 4, 0, 9] _ HS3.out.dice HO4.out (fun ad e => by injection e with e; rw [← e]; show x2.heap.size ≠ D; omega) (by omega) (by omega)).mono ?_
        rintro e x3 ⟨cv, rfl, hcv, hg⟩
        have hcv0 : 0 ≤ cv ∧ cv ≤ 30 := by
          simp only [List.mem_cons, List.not_mem_nil, or_false] at hcv
          omega
        have hcv1 := hcv0.1; have hcv2 := hcv0.2
        have HS4 := Lib.hid (HS3.out.gave hg)
        clear hg HS3 HO4 hcv HS2 hDx hcv0
        go_upto_region 12 with (refine wpList_store_new rfl 34 (.tmp 9) (.tmp 45) rfl 34 _ (bareP10 T 1 5 (1 + bv) (T + cv)).arr rfl rfl (bareP10 T 1 5 (1 + bv) (T + cv)).info rfl (bareP10 T 1 5 (1 + bv) (T + cv)).one ?_)
        have HNW := Lib.hid (one_new x3 (.cells (bareP10 T 1 5 (1 + bv) (T + cv)).arr 34))
        have HG : Hid ((x3.alloc (.cells (bareP10 T 1 5 (1 + bv) (T + cv)).arr 34)).heap[x3.heap.size]? = some (.cells (bareP10 T 1 5 (1 + bv) (T + cv)).arr 34 (0, 0))) := Lib.hid (heap_alloc_new _ _)
        have HS5 := Lib.hid (HS4.out.later HNW.out)
        have hgw : wr.heap.size ≤ x3.heap.size := HS4.out.but.size
        clear HNW HS4
        generalize x3.alloc (.cells (bareP10 T 1 5 (1 + bv) (T + cv)).arr 34) = x4 at *
        generalize x3.heap.size = g at *
        have hDg : D < g := by omega
        by_cases hl0 : l'.length = 0
        · have b0 : decide ((ends.length : Int) > 0) = false := decide_eq_false (by have := HE1.out; omega)
          have b0' : decide ((0 : Int) < (ends.length : Int)) = false := b0
          have b0n : decide (0 < ends.length) = false := decide_eq_false (by have := HE1.out; omega)
          have b0p : ¬ 0 < ends.length := by have := HE1.out; omega
          clear hl0
          go_upto_region 17 with fail
          clear b0 b0' b0n b0p
          rename World => xx
          have HLW := Lib.hid (HQ.out.1.but HS5.out.but hDw)
          have HRR : Hid (Rnd L D t w1 xx) := Lib.hid ⟨HQ.out.2.but.trans HS5.out.but, HS5.out.dice⟩
          have HRE : Hid (rev = rev) := Lib.hid rfl
          obtain ⟨rev2, hrev2⟩ : ∃ r, r = rev := ⟨_, rfl⟩
          have HR2E := Lib.hid hrev2
          rw [← hrev2] at HLW
          rw [← hrev2]
          have hrl : rev2.length ≤ 6 := by rw [hrev2]; have := HE2.out; omega
          clear HS5 hrev2 HRE
          have hel : ends.length ≤ 6 := by have := HE1.out; omega
          obtain ⟨X, hX, hch, hxk, hxa, hxc, hxt, hxl, hxp⟩ := nextP_last (T := T) HLI.out (by rw [List.length_map]; omega) (by omega) (fun h0 => by have := HLT.out (by rwa [List.length_map] at h0); omega) (.inl ⟨rfl, by omega, by omega, by omega, by omega, by omega, by omega, by omega⟩ : ((1 : Int) = 1 ∧ (0 : Int) ≤ 5 ∧ (5 : Int) ≤ 63 ∧ (5 : Int) ≠ 3 ∧ 1 ≤ 1 + bv ∧ 1 + bv ≤ 3 ∧ T ≤ T + cv ∧ T + cv ≤ 2000000) ∨ ((1 : Int) = 2 ∧ (0 : Int) ≤ 5 ∧ (5 : Int) ≤ 199 ∧ 1 + bv = 0 ∧ T + cv = 0))
          have HXS : Hid (Small X) := Lib.hid (by have h := nextP_small (au := 3) (l := l'.map (·.s)) (bareD_small T 1 5 (1 + bv) (T + cv)); rw [hX] at h; exact h)
          have HCALL : Hid (Calls Try.prog 12 #[.int .i64 3, .slice A4 l'.length c4, .agg (bareP10 T 1 5 (1 + bv) (T + cv)).arr] xx (GivesX xx X 0)) := Lib.hid (by
            have h := nextP_any 3 A4 l'.length c4 l' (bareP10 T 1 5 (1 + bv) (T + cv)) xx HLW.out.lrow (by omega) (fun q hq => (HLW.out.ok q hq).2) (bareP10_ok _ _ _ _ _ _) (bareD_small _ _ _ _ _)
            rw [show (bareP10 T 1 5 (1 + bv) (T + cv)).s = (bareD T 1 5 (1 + bv) (T + cv)) from rfl, hX] at h
            exact h)
          have HXC := Lib.hid hch; have HXF := Lib.hid (And.intro hxk (And.intro hxa (And.intro hxc hxt))); have HXL := Lib.hid (And.intro hxl hxp)
          clear hX hch hxk hxa hxc hxt hxl hxp
          go_wp2_with (refine wpList_load_row rfl 34 (.tmp 9) rfl g rfl 34 (bareP10 T 1 5 (1 + bv) (T + cv)).arr (0, 0) _ HG.out Try.underlying34 rfl (bareP10 T 1 5 (1 + bv) (T + cv)).info ?_)
          refine HCALL.out.mono ?_
          clear HCALL
          rintro e y1 ⟨q, rfl, hqs, hqo, -, -, hb⟩
          have HQE := Lib.hid hqs
          have HQB : Hid ((∀ y, PlOk y q) ∧ Small q.s) := Lib.hid ⟨bare_ok hqo (by rw [hqs]; exact HXL.out.1) (by rw [hqs]; exact HXL.out.2), by rw [hqs]; exact HXS.out⟩
          have HLW1 := Lib.hid (HLW.out.later hb); have HR1 := Lib.hid (HRR.out.later hb)
          have HG1 := Lib.hid ((hb.block g (Array.getElem?_eq_some_iff.1 HG.out).1).trans HG.out)
          clear hqs hqo hb HLW HRR HG HXS HXL
          go_upto_region 18 with (refine wpList_store_new rfl 34 (.tmp 11) (.tmp 80) rfl 34 _ q.arr rfl rfl q.info rfl q.one ?_)
          have HNW := Lib.hid (one_new y1 (.cells q.arr 34))
          have HG8 : Hid ((y1.alloc (.cells q.arr 34)).heap[y1.heap.size]? = some (.cells q.arr 34 (0, 0))) := Lib.hid (heap_alloc_new _ _)
          have HLW2 := Lib.hid (HLW1.out.later HNW.out); have HR2 := Lib.hid (HR1.out.later HNW.out)
          have HG2 := Lib.hid ((HNW.out.block g (Array.getElem?_eq_some_iff.1 HG1.out).1).trans HG1.out)
          clear HNW HLW1 HR1 HG1
          generalize y1.alloc (.cells q.arr 34) = y2 at *
          generalize y1.heap.size = g8 at *
          have hvs : q.arr.size = 13 := rfl
          have hy2 : w1.heap.size ≤ y2.heap.size := HR2.out.but.size
          go_upto_region 21 with (first | (refine wpList_load_row rfl 34 (.tmp 11) rfl g8 rfl 34 q.arr (0, 0) _ HG8.out Try.underlying34 rfl q.info ?_) | (at_builtin; (first | rw [fold13] | (rw [← hvs, fold13])); go_must (refine wpList_app_newK y2 rfl (.tmp 84) (.tmp 86) 27 34 rfl w1.heap.size Try.underlying27 stm_info rfl _ l'.length (plsC l') HLW2.out.o4 rfl 1 q.arr rfl q.ones rfl rfl (by unfold maxLen; omega) (by omega) hy2 ?_); intro v4n z3 ho hb hk1 hk2; rw [show q.arr.toList = plsC [q] from rfl] at ho; have HLW3 := Lib.hid (HLW2.out.app4 HQB.out ho hk1); have HB3 := Lib.hid hb; have HG3 := Lib.hid ((hk1 g (Array.getElem?_eq_some_iff.1 HG2.out).1 (fun e => by have := own_lt HQ.out.1.o4 g e; omega)).trans HG2.out); clear ho hb hk1 hk2))
          have HR3 : Hid (Rnd L D t w1 z3) := Lib.hid ⟨HR2.out.but.grow HB3.out, by obtain ⟨k, hk⟩ := HR2.out.dice; exact ⟨k, hk.below HB3.out hDw⟩⟩
          have hz3 : w1.heap.size ≤ z3.heap.size := HR3.out.but.size
          clear HLW2 HR2 HG2 HG8 HQB HB3
          have hc4 : z3.cell? ⟨g, 4, none⟩ = some (.int .i64 1) := (cell_of_row _ _ 4 _ _ _ HG3.out).trans rfl
          have hc7 : z3.cell? ⟨g, 7, none⟩ = some (.int .i64 (T + cv)) := (cell_of_row _ _ 7 _ _ _ HG3.out).trans rfl
          go_wp2_with (first | (at_builtin; (refine wpList_app_newK z3 rfl (.tmp 91) (.tmp 94) 22 3 rfl w1.heap.size Try.underlying22 i64_info rfl _ ends.length (intsV ends) HLW3.out.o5 rfl 1 #[.int .i64 (T + cv)] rfl (by simp [Value.oneCell']) rfl rfl (by unfold maxLen; omega) (by omega) (by omega) ?_); intro v5n z4 ho hb hk1 hk2; rw [show (#[Value.int .i64 (T + cv)] : Array Value).toList = intsV [(T + cv)] from rfl] at ho; have HLW4 := Lib.hid (HLW3.out.app5 ho hk1 hk2); have HBz4 := Lib.hid hb; have hsz4 : w1.heap.size ≤ z4.heap.size := Nat.le_trans hz3 (Nat.le_trans (Nat.le_refl _) hb.size); clear ho hb hk1 hk2) | (at_builtin; (refine wpList_app_newK z4 rfl (.tmp 96) (.tmp 97) 22 3 rfl w1.heap.size Try.underlying22 i64_info rfl _ rev2.length (intsV rev2) HLW4.out.o6 rfl 1 #[.int .i64 (-1)] rfl (by simp [Value.oneCell']) rfl rfl (by unfold maxLen; omega) (by omega) (by omega) ?_); intro v6n z5 ho hb hk1 hk2; rw [show (#[Value.int .i64 (-1)] : Array Value).toList = intsV [(-1)] from rfl] at ho; have HLW5 := Lib.hid (HLW4.out.app6 ho hk1 hk2); have HBz5 := Lib.hid hb; have hsz5 : w1.heap.size ≤ z5.heap.size := Nat.le_trans hz3 (Nat.le_trans HBz4.out.size hb.size); clear ho hb hk1 hk2))
          have HR5 : Hid (Rnd L D t w1 z5) := Lib.hid ⟨(HR3.out.but.grow HBz4.out).grow HBz5.out, by obtain ⟨k, hk⟩ := HR3.out.dice; exact ⟨k, (hk.below HBz4.out hDw).below HBz5.out hDw⟩⟩
          have HLI2 : Hid (LastI ((l' ++ [q]).map (·.s)) (ends ++ [(T + cv)]) (rev2 ++ [-1])) := Lib.hid (by
            rw [List.map_append, List.map_cons, List.map_nil, HQE.out]
            have h := HLI.out.vouch HXC.out HXF.out.1 HXF.out.2.1 (by rw [HXF.out.2.2.1]; omega)
            rw [HXF.out.2.2.1] at h
            rw [HR2E.out]
            exact h)
          have HLT2 : Hid (0 < (l' ++ [q]).length → (lastL ((l' ++ [q]).map (·.s))).time ≤ T) := Lib.hid fun _ => by rw [List.map_append, List.map_cons, List.map_nil, lastL_snoc, HQE.out, HXF.out.2.2.2]; exact Int.le_refl _
          go_roundg (m - 1)
          case measure => omega
          case rel => exact ⟨m - 1, T, l' ++ [q], ends ++ [(T + cv)], rev2 ++ [-1], by go_num, Nat.le_refl _, rfl, by omega, hs1, by rw [List.length_append]; show l'.length + 1 + (m - 1) = N1 + 1; omega, Lib.hid ⟨HLW5.out, HR5.out⟩, HLI2, HLT2⟩
        · have b0 : decide ((ends.length : Int) > 0) = true := decide_eq_true (by have := HE1.out; omega)
          have b0' : decide ((0 : Int) < (ends.length : Int)) = true := b0
          have b0n : decide (0 < ends.length) = true := decide_eq_true (by have := HE1.out; omega)
          have b0p : 0 < ends.length := by have := HE1.out; omega
          go_wp2_with fail
          refine (one_g L D t 3 x4 HS5.out.dice (by omega) (by omega)).mono ?_
          rintro e xx ⟨rb, rfl, hg⟩
          replace HS5 := Lib.hid (HS5.out.gave hg)
          replace HG := Lib.hid ((hg.2.block g (Array.getElem?_eq_some_iff.1 HG.out).1 (by omega)).trans HG.out)
          clear hg b0 b0' b0n b0p
          cases rb
          · go_upto_region 17 with fail
            have HLW := Lib.hid (HQ.out.1.but HS5.out.but hDw)
            have HRR : Hid (Rnd L D t w1 xx) := Lib.hid ⟨HQ.out.2.but.trans HS5.out.but, HS5.out.dice⟩
            have HRE : Hid (rev = rev) := Lib.hid rfl
            obtain ⟨rev2, hrev2⟩ : ∃ r, r = rev := ⟨_, rfl⟩
            have HR2E := Lib.hid hrev2
            rw [← hrev2] at HLW
            rw [← hrev2]
            have hrl : rev2.length ≤ 6 := by rw [hrev2]; have := HE2.out; omega
            clear HS5 hrev2 HRE
            have hel : ends.length ≤ 6 := by have := HE1.out; omega
            obtain ⟨X, hX, hch, hxk, hxa, hxc, hxt, hxl, hxp⟩ := nextP_last (T := T) HLI.out (by rw [List.length_map]; omega) (by omega) (fun h0 => by have := HLT.out (by rwa [List.length_map] at h0); omega) (.inl ⟨rfl, by omega, by omega, by omega, by omega, by omega, by omega, by omega⟩ : ((1 : Int) = 1 ∧ (0 : Int) ≤ 5 ∧ (5 : Int) ≤ 63 ∧ (5 : Int) ≠ 3 ∧ 1 ≤ 1 + bv ∧ 1 + bv ≤ 3 ∧ T ≤ T + cv ∧ T + cv ≤ 2000000) ∨ ((1 : Int) = 2 ∧ (0 : Int) ≤ 5 ∧ (5 : Int) ≤ 199 ∧ 1 + bv = 0 ∧ T + cv = 0))
            have HXS : Hid (Small X) := Lib.hid (by have h := nextP_small (au := 3) (l := l'.map (·.s)) (bareD_small T 1 5 (1 + bv) (T + cv)); rw [hX] at h; exact h)
            have HCALL : Hid (Calls Try.prog 12 #[.int .i64 3, .slice A4 l'.length c4, .agg (bareP10 T 1 5 (1 + bv) (T + cv)).arr] xx (GivesX xx X 0)) := Lib.hid (by
              have h := nextP_any 3 A4 l'.length c4 l' (bareP10 T 1 5 (1 + bv) (T + cv)) xx HLW.out.lrow (by omega) (fun q hq => (HLW.out.ok q hq).2) (bareP10_ok _ _ _ _ _ _) (bareD_small _ _ _ _ _)
              rw [show (bareP10 T 1 5 (1 + bv) (T + cv)).s = (bareD T 1 5 (1 + bv) (T + cv)) from rfl, hX] at h
              exact h)
            have HXC := Lib.hid hch; have HXF := Lib.hid (And.intro hxk (And.intro hxa (And.intro hxc hxt))); have HXL := Lib.hid (And.intro hxl hxp)
            clear hX hch hxk hxa hxc hxt hxl hxp
            go_wp2_with (refine wpList_load_row rfl 34 (.tmp 9) rfl g rfl 34 (bareP10 T 1 5 (1 + bv) (T + cv)).arr (0, 0) _ HG.out Try.underlying34 rfl (bareP10 T 1 5 (1 + bv) (T + cv)).info ?_)
            refine HCALL.out.mono ?_
            clear HCALL
            rintro e y1 ⟨q, rfl, hqs, hqo, -, -, hb⟩
            have HQE := Lib.hid hqs
            have HQB : Hid ((∀ y, PlOk y q) ∧ Small q.s) := Lib.hid ⟨bare_ok hqo (by rw [hqs]; exact HXL.out.1) (by rw [hqs]; exact HXL.out.2), by rw [hqs]; exact HXS.out⟩
            have HLW1 := Lib.hid (HLW.out.later hb); have HR1 := Lib.hid (HRR.out.later hb)
            have HG1 := Lib.hid ((hb.block g (Array.getElem?_eq_some_iff.1 HG.out).1).trans HG.out)
            clear hqs hqo hb HLW HRR HG HXS HXL
            go_upto_region 18 with (refine wpList_store_new rfl 34 (.tmp 11) (.tmp 80) rfl 34 _ q.arr rfl rfl q.info rfl q.one ?_)
            have HNW := Lib.hid (one_new y1 (.cells q.arr 34))
            have HG8 : Hid ((y1.alloc (.cells q.arr 34)).heap[y1.heap.size]? = some (.cells q.arr 34 (0, 0))) := Lib.hid (heap_alloc_new _ _)
            have HLW2 := Lib.hid (HLW1.out.later HNW.out); have HR2 := Lib.hid (HR1.out.later HNW.out)
            have HG2 := Lib.hid ((HNW.out.block g (Array.getElem?_eq_some_iff.1 HG1.out).1).trans HG1.out)
            clear HNW HLW1 HR1 HG1
            generalize y1.alloc (.cells q.arr 34) = y2 at *
            generalize y1.heap.size = g8 at *
            have hvs : q.arr.size = 13 := rfl
            have hy2 : w1.heap.size ≤ y2.heap.size := HR2.out.but.size
            go_upto_region 21 with (first | (refine wpList_load_row rfl 34 (.tmp 11) rfl g8 rfl 34 q.arr (0, 0) _ HG8.out Try.underlying34 rfl q.info ?_) | (at_builtin; (first | rw [fold13] | (rw [← hvs, fold13])); go_must (refine wpList_app_newK y2 rfl (.tmp 84) (.tmp 86) 27 34 rfl w1.heap.size Try.underlying27 stm_info rfl _ l'.length (plsC l') HLW2.out.o4 rfl 1 q.arr rfl q.ones rfl rfl (by unfold maxLen; omega) (by omega) hy2 ?_); intro v4n z3 ho hb hk1 hk2; rw [show q.arr.toList = plsC [q] from rfl] at ho; have HLW3 := Lib.hid (HLW2.out.app4 HQB.out ho hk1); have HB3 := Lib.hid hb; have HG3 := Lib.hid ((hk1 g (Array.getElem?_eq_some_iff.1 HG2.out).1 (fun e => by have := own_lt HQ.out.1.o4 g e; omega)).trans HG2.out); clear ho hb hk1 hk2))
            have HR3 : Hid (Rnd L D t w1 z3) := Lib.hid ⟨HR2.out.but.grow HB3.out, by obtain ⟨k, hk⟩ := HR2.out.dice; exact ⟨k, hk.below HB3.out hDw⟩⟩
            have hz3 : w1.heap.size ≤ z3.heap.size := HR3.out.but.size
            clear HLW2 HR2 HG2 HG8 HQB HB3
            have hc4 : z3.cell? ⟨g, 4, none⟩ = some (.int .i64 1) := (cell_of_row _ _ 4 _ _ _ HG3.out).trans rfl
            have hc7 : z3.cell? ⟨g, 7, none⟩ = some (.int .i64 (T + cv)) := (cell_of_row _ _ 7 _ _ _ HG3.out).trans rfl
            go_wp2_with (first | (at_builtin; (refine wpList_app_newK z3 rfl (.tmp 91) (.tmp 94) 22 3 rfl w1.heap.size Try.underlying22 i64_info rfl _ ends.length (intsV ends) HLW3.out.o5 rfl 1 #[.int .i64 (T + cv)] rfl (by simp [Value.oneCell']) rfl rfl (by unfold maxLen; omega) (by omega) (by omega) ?_); intro v5n z4 ho hb hk1 hk2; rw [show (#[Value.int .i64 (T + cv)] : Array Value).toList = intsV [(T + cv)] from rfl] at ho; have HLW4 := Lib.hid (HLW3.out.app5 ho hk1 hk2); have HBz4 := Lib.hid hb; have hsz4 : w1.heap.size ≤ z4.heap.size := Nat.le_trans hz3 (Nat.le_trans (Nat.le_refl _) hb.size); clear ho hb hk1 hk2) | (at_builtin; (refine wpList_app_newK z4 rfl (.tmp 96) (.tmp 97) 22 3 rfl w1.heap.size Try.underlying22 i64_info rfl _ rev2.length (intsV rev2) HLW4.out.o6 rfl 1 #[.int .i64 (-1)] rfl (by simp [Value.oneCell']) rfl rfl (by unfold maxLen; omega) (by omega) (by omega) ?_); intro v6n z5 ho hb hk1 hk2; rw [show (#[Value.int .i64 (-1)] : Array Value).toList = intsV [(-1)] from rfl] at ho; have HLW5 := Lib.hid (HLW4.out.app6 ho hk1 hk2); have HBz5 := Lib.hid hb; have hsz5 : w1.heap.size ≤ z5.heap.size := Nat.le_trans hz3 (Nat.le_trans HBz4.out.size hb.size); clear ho hb hk1 hk2))
            have HR5 : Hid (Rnd L D t w1 z5) := Lib.hid ⟨(HR3.out.but.grow HBz4.out).grow HBz5.out, by obtain ⟨k, hk⟩ := HR3.out.dice; exact ⟨k, (hk.below HBz4.out hDw).below HBz5.out hDw⟩⟩
            have HLI2 : Hid (LastI ((l' ++ [q]).map (·.s)) (ends ++ [(T + cv)]) (rev2 ++ [-1])) := Lib.hid (by
              rw [List.map_append, List.map_cons, List.map_nil, HQE.out]
              have h := HLI.out.vouch HXC.out HXF.out.1 HXF.out.2.1 (by rw [HXF.out.2.2.1]; omega)
              rw [HXF.out.2.2.1] at h
              rw [HR2E.out]
              exact h)
            have HLT2 : Hid (0 < (l' ++ [q]).length → (lastL ((l' ++ [q]).map (·.s))).time ≤ T) := Lib.hid fun _ => by rw [List.map_append, List.map_cons, List.map_nil, lastL_snoc, HQE.out, HXF.out.2.2.2]; exact Int.le_refl _
            go_roundg (m - 1)
            case measure => omega
            case rel => exact ⟨m - 1, T, l' ++ [q], ends ++ [(T + cv)], rev2 ++ [-1], by go_num, Nat.le_refl _, rfl, by omega, hs1, by rw [List.length_append]; show l'.length + 1 + (m - 1) = N1 + 1; omega, Lib.hid ⟨HLW5.out, HR5.out⟩, HLI2, HLT2⟩
          · have hlz : (1 : Int) ≤ (l'.length : Int) := by omega
            go_wp2_with fail
            refine (next_g L D t (l'.length : Int) xx HS5.out.dice hlz (by omega)).mono ?_
            rintro e x6 ⟨kz, rfl, hkz0, hkz1, hg⟩
            obtain ⟨k, rfl⟩ : ∃ k : Nat, kz = (k : Int) := ⟨kz.toNat, by omega⟩
            have hkl : k < l'.length := by omega
            replace HS5 := Lib.hid (HS5.out.gave hg)
            replace HG := Lib.hid ((hg.2.block g (Array.getElem?_eq_some_iff.1 HG.out).1 (by omega)).trans HG.out)
            clear hg hkz0 hkz1 hlz
            go_upto_region 15 with (refine wpList_store_row rfl 34 (.tmp 9) (.tmp 59) rfl g (bareP10 T 2 (k : Int) 0 0).arr rfl rfl 34 _ HG.out (bareP10 T 2 (k : Int) 0 0).info rfl (bareP10 T 2 (k : Int) 0 0).one ?_)
            replace HS5 : Hid (Rnd L D t wr (x6.setRow g (bareP10 T 2 (k : Int) 0 0).arr)) := Lib.hid (HS5.out.row g hgw hDr _)
            replace HG : Hid ((x6.setRow g (bareP10 T 2 (k : Int) 0 0).arr).heap[g]? = some (.cells (bareP10 T 2 (k : Int) 0 0).arr 34 (0, 0))) := Lib.hid (setRow_heap x6 g _ _ _ _ HG.out)
            generalize x6.setRow g (bareP10 T 2 (k : Int) 0 0).arr = x7 at *
            have HLW := Lib.hid (HQ.out.1.but HS5.out.but hDw)
            have hke : k < ends.length := by have := HE1.out; omega
            have hkr : k < rev.length := by have := HE2.out; omega
            have hke2 : (k : Int) < (ends.length : Int) := by omega
            have hkr2 : (k : Int) < (rev.length : Int) := by omega
            obtain ⟨b5, o5, hA5, hc5⟩ := IRow.cell (own_irow HLW.out.o5) k hke
            obtain ⟨b6, o6, hA6, hc6⟩ := IRow.cell (own_irow HLW.out.o6) k hkr
            subst hA5 hA6
            obtain ⟨ev, hev⟩ : ∃ e, ends.getD k 0 = e := ⟨_, rfl⟩
            obtain ⟨rv, hrv⟩ : ∃ e, rev.getD k 0 = e := ⟨_, rfl⟩
            rw [hev] at hc5
            rw [hrv] at hc6
            have HEV := Lib.hid hev; have HRV := Lib.hid hrv
            clear hev hrv
            have HRS : Hid (revSet ends rev k T = if 0 ≤ ev ∧ rv < 0 then rev.set k T else rev) := Lib.hid (by unfold revSet; rw [HEV.out, HRV.out])
            by_cases he0 : 0 ≤ ev
            · have d0 : decide (ev ≥ 0) = true := decide_eq_true he0
              have d0' : decide (0 ≤ ev) = true := d0
              by_cases hr0 : rv < 0
              · have d1 : decide (rv < 0) = true := decide_eq_true hr0
                have HRE : Hid (revSet ends rev k T = rev.set k T) := Lib.hid (by rw [HRS.out, if_pos ⟨he0, hr0⟩])
                have hf6 : x7.frozen? ⟨b6, o6 + k, none⟩ = false := own_thaw HLW.out.o6 k
                have HLP := Lib.hid (HLW.out.put (k := k) (i := T))
                have HSP := Lib.hid (rnd_own (k := k) (v := .int .i64 T) HS5.out HQ.out.2 HQ.out.1 hDw)
                have HGP : Hid ((x7.setCell ⟨b6, o6 + k, none⟩ (.int .i64 T)).heap[g]? = some (.cells (bareP10 T 2 (k : Int) 0 0).arr 34 (0, 0))) := Lib.hid ((Below.heap_setCell _ _ _ _ (by show g ≠ b6; have := own_lt HQ.out.1.o6 b6 rfl; omega)).trans HG.out)
                clear he0 hr0 HRS
                go_upto_region 17 with fail
                clear d0 d0' d1 hc5 hc6 hf6 HLW HS5 HG
                obtain ⟨xx, hxx⟩ : ∃ y, x7.setCell ⟨b6, o6 + k, none⟩ (.int .i64 T) = y := ⟨_, rfl⟩
                rw [hxx] at HLP HSP HGP ⊢
                clear hxx
                obtain ⟨rev2, hrev2⟩ : ∃ r, rev.set k T = r := ⟨_, rfl⟩
                rw [hrev2] at HLP HRE
                clear hrev2
                have HLW := HLP
                have HRR := HSP
                have HG := HGP
                clear HLP HSP HGP
                have hrl : rev2.length ≤ 6 := by have h := revSet_len ends rev k T; rw [HRE.out] at h; have := HE2.out; omega
                have hel : ends.length ≤ 6 := by have := HE1.out; omega
                obtain ⟨X, hX, hch, hxk, hxa, hxc, hxt, hxl, hxp⟩ := nextP_last (T := T) HLI.out (by rw [List.length_map]; omega) (by omega) (fun h0 => by have := HLT.out (by rwa [List.length_map] at h0); omega) (.inr ⟨rfl, by omega, by omega, rfl, rfl⟩ : ((2 : Int) = 1 ∧ (0 : Int) ≤ k ∧ (k : Int) ≤ 63 ∧ (k : Int) ≠ 3 ∧ (1 : Int) ≤ 0 ∧ (0 : Int) ≤ 3 ∧ T ≤ 0 ∧ (0 : Int) ≤ 2000000) ∨ ((2 : Int) = 2 ∧ (0 : Int) ≤ k ∧ (k : Int) ≤ 199 ∧ (0 : Int) = 0 ∧ (0 : Int) = 0))
                have HXS : Hid (Small X) := Lib.hid (by have h := nextP_small (au := 3) (l := l'.map (·.s)) (bareD_small T 2 (k : Int) 0 0); rw [hX] at h; exact h)
                have HCALL : Hid (Calls Try.prog 12 #[.int .i64 3, .slice A4 l'.length c4, .agg (bareP10 T 2 (k : Int) 0 0).arr] xx (GivesX xx X 0)) := Lib.hid (by
                  have h := nextP_any 3 A4 l'.length c4 l' (bareP10 T 2 (k : Int) 0 0) xx HLW.out.lrow (by omega) (fun q hq => (HLW.out.ok q hq).2) (bareP10_ok _ _ _ _ _ _) (bareD_small _ _ _ _ _)
                  rw [show (bareP10 T 2 (k : Int) 0 0).s = (bareD T 2 (k : Int) 0 0) from rfl, hX] at h
                  exact h)
                have HXC := Lib.hid hch; have HXF := Lib.hid (And.intro hxk (And.intro hxa (And.intro hxc hxt))); have HXL := Lib.hid (And.intro hxl hxp)
                clear hX hch hxk hxa hxc hxt hxl hxp
                go_wp2_with (refine wpList_load_row rfl 34 (.tmp 9) rfl g rfl 34 (bareP10 T 2 (k : Int) 0 0).arr (0, 0) _ HG.out Try.underlying34 rfl (bareP10 T 2 (k : Int) 0 0).info ?_)
                refine HCALL.out.mono ?_
                clear HCALL
                rintro e y1 ⟨q, rfl, hqs, hqo, -, -, hb⟩
                have HQE := Lib.hid hqs
                have HQB : Hid ((∀ y, PlOk y q) ∧ Small q.s) := Lib.hid ⟨bare_ok hqo (by rw [hqs]; exact HXL.out.1) (by rw [hqs]; exact HXL.out.2), by rw [hqs]; exact HXS.out⟩
                have HLW1 := Lib.hid (HLW.out.later hb); have HR1 := Lib.hid (HRR.out.later hb)
                have HG1 := Lib.hid ((hb.block g (Array.getElem?_eq_some_iff.1 HG.out).1).trans HG.out)
                clear hqs hqo hb HLW HRR HG HXS HXL
                go_upto_region 18 with (refine wpList_store_new rfl 34 (.tmp 11) (.tmp 80) rfl 34 _ q.arr rfl rfl q.info rfl q.one ?_)
                have HNW := Lib.hid (one_new y1 (.cells q.arr 34))
                have HG8 : Hid ((y1.alloc (.cells q.arr 34)).heap[y1.heap.size]? = some (.cells q.arr 34 (0, 0))) := Lib.hid (heap_alloc_new _ _)
                have HLW2 := Lib.hid (HLW1.out.later HNW.out); have HR2 := Lib.hid (HR1.out.later HNW.out)
                have HG2 := Lib.hid ((HNW.out.block g (Array.getElem?_eq_some_iff.1 HG1.out).1).trans HG1.out)
                clear HNW HLW1 HR1 HG1
                generalize y1.alloc (.cells q.arr 34) = y2 at *
                generalize y1.heap.size = g8 at *
                have hvs : q.arr.size = 13 := rfl
                have hy2 : w1.heap.size ≤ y2.heap.size := HR2.out.but.size
                go_upto_region 21 with (first | (refine wpList_load_row rfl 34 (.tmp 11) rfl g8 rfl 34 q.arr (0, 0) _ HG8.out Try.underlying34 rfl q.info ?_) | (at_builtin; (first | rw [fold13] | (rw [← hvs, fold13])); go_must (refine wpList_app_newK y2 rfl (.tmp 84) (.tmp 86) 27 34 rfl w1.heap.size Try.underlying27 stm_info rfl _ l'.length (plsC l') HLW2.out.o4 rfl 1 q.arr rfl q.ones rfl rfl (by unfold maxLen; omega) (by omega) hy2 ?_); intro v4n z3 ho hb hk1 hk2; rw [show q.arr.toList = plsC [q] from rfl] at ho; have HLW3 := Lib.hid (HLW2.out.app4 HQB.out ho hk1); have HB3 := Lib.hid hb; have HG3 := Lib.hid ((hk1 g (Array.getElem?_eq_some_iff.1 HG2.out).1 (fun e => by have := own_lt HQ.out.1.o4 g e; omega)).trans HG2.out); clear ho hb hk1 hk2))
                have HR3 : Hid (Rnd L D t w1 z3) := Lib.hid ⟨HR2.out.but.grow HB3.out, by obtain ⟨k, hk⟩ := HR2.out.dice; exact ⟨k, hk.below HB3.out hDw⟩⟩
                have hz3 : w1.heap.size ≤ z3.heap.size := HR3.out.but.size
                clear HLW2 HR2 HG2 HG8 HQB HB3
                have hc4 : z3.cell? ⟨g, 4, none⟩ = some (.int .i64 2) := (cell_of_row _ _ 4 _ _ _ HG3.out).trans rfl
                skip
                go_wp2_with (first | (at_builtin; (refine wpList_app_newK z3 rfl (.tmp 99) (.tmp 100) 22 3 rfl w1.heap.size Try.underlying22 i64_info rfl _ ends.length (intsV ends) HLW3.out.o5 rfl 1 #[.int .i64 (-1)] rfl (by simp [Value.oneCell']) rfl rfl (by unfold maxLen; omega) (by omega) (by omega) ?_); intro v5n z4 ho hb hk1 hk2; rw [show (#[Value.int .i64 (-1)] : Array Value).toList = intsV [(-1)] from rfl] at ho; have HLW4 := Lib.hid (HLW3.out.app5 ho hk1 hk2); have HBz4 := Lib.hid hb; have hsz4 : w1.heap.size ≤ z4.heap.size := Nat.le_trans hz3 (Nat.le_trans (Nat.le_refl _) hb.size); clear ho hb hk1 hk2) | (at_builtin; (refine wpList_app_newK z4 rfl (.tmp 102) (.tmp 103) 22 3 rfl w1.heap.size Try.underlying22 i64_info rfl _ rev2.length (intsV rev2) HLW4.out.o6 rfl 1 #[.int .i64 (-1)] rfl (by simp [Value.oneCell']) rfl rfl (by unfold maxLen; omega) (by omega) (by omega) ?_); intro v6n z5 ho hb hk1 hk2; rw [show (#[Value.int .i64 (-1)] : Array Value).toList = intsV [(-1)] from rfl] at ho; have HLW5 := Lib.hid (HLW4.out.app6 ho hk1 hk2); have HBz5 := Lib.hid hb; have hsz5 : w1.heap.size ≤ z5.heap.size := Nat.le_trans hz3 (Nat.le_trans HBz4.out.size hb.size); clear ho hb hk1 hk2))
                have HR5 : Hid (Rnd L D t w1 z5) := Lib.hid ⟨(HR3.out.but.grow HBz4.out).grow HBz5.out, by obtain ⟨k, hk⟩ := HR3.out.dice; exact ⟨k, (hk.below HBz4.out hDw).below HBz5.out hDw⟩⟩
                have HLI2 : Hid (LastI ((l' ++ [q]).map (·.s)) (ends ++ [(-1)]) (rev2 ++ [-1])) := Lib.hid (by
                  rw [List.map_append, List.map_cons, List.map_nil, HQE.out]
                  have h := HLI.out.revoke (k := k) (by rw [List.length_map]; exact hkl) HXC.out HXF.out.1 HXF.out.2.1
                  rw [HXF.out.2.2.2, HRE.out] at h
                  exact h)
                have HLT2 : Hid (0 < (l' ++ [q]).length → (lastL ((l' ++ [q]).map (·.s))).time ≤ T) := Lib.hid fun _ => by rw [List.map_append, List.map_cons, List.map_nil, lastL_snoc, HQE.out, HXF.out.2.2.2]; exact Int.le_refl _
                go_roundg (m - 1)
                case measure => omega
                case rel => exact ⟨m - 1, T, l' ++ [q], ends ++ [(-1)], rev2 ++ [-1], by go_num, Nat.le_refl _, rfl, by omega, hs1, by rw [List.length_append]; show l'.length + 1 + (m - 1) = N1 + 1; omega, Lib.hid ⟨HLW5.out, HR5.out⟩, HLI2, HLT2⟩
              · have d1 : decide (rv < 0) = false := decide_eq_false hr0
                have HRE : Hid (revSet ends rev k T = rev) := Lib.hid (by rw [HRS.out, if_neg (fun h => hr0 h.2)])
                have HRR : Hid (Rnd L D t w1 x7) := Lib.hid ⟨HQ.out.2.but.trans HS5.out.but, HS5.out.dice⟩
                clear he0 hr0 HRS
                go_upto_region 17 with fail
                clear d0 d0' d1 hc5 hc6 HS5
                obtain ⟨rev2, hrev2⟩ : ∃ r, r = rev := ⟨_, rfl⟩
                rw [← hrev2] at HLW
                replace HRE : Hid (revSet ends rev k T = rev2) := Lib.hid (by rw [HRE.out, hrev2])
                rw [← hrev2]
                clear hrev2
                rename World => xx
                have hrl : rev2.length ≤ 6 := by have h := revSet_len ends rev k T; rw [HRE.out] at h; have := HE2.out; omega
                have hel : ends.length ≤ 6 := by have := HE1.out; omega
                obtain ⟨X, hX, hch, hxk, hxa, hxc, hxt, hxl, hxp⟩ := nextP_last (T := T) HLI.out (by rw [List.length_map]; omega) (by omega) (fun h0 => by have := HLT.out (by rwa [List.length_map] at h0); omega) (.inr ⟨rfl, by omega, by omega, rfl, rfl⟩ : ((2 : Int) = 1 ∧ (0 : Int) ≤ k ∧ (k : Int) ≤ 63 ∧ (k : Int) ≠ 3 ∧ (1 : Int) ≤ 0 ∧ (0 : Int) ≤ 3 ∧ T ≤ 0 ∧ (0 : Int) ≤ 2000000) ∨ ((2 : Int) = 2 ∧ (0 : Int) ≤ k ∧ (k : Int) ≤ 199 ∧ (0 : Int) = 0 ∧ (0 : Int) = 0))
                have HXS : Hid (Small X) := Lib.hid (by have h := nextP_small (au := 3) (l := l'.map (·.s)) (bareD_small T 2 (k : Int) 0 0); rw [hX] at h; exact h)
                have HCALL : Hid (Calls Try.prog 12 #[.int .i64 3, .slice A4 l'.length c4, .agg (bareP10 T 2 (k : Int) 0 0).arr] xx (GivesX xx X 0)) := Lib.hid (by
                  have h := nextP_any 3 A4 l'.length c4 l' (bareP10 T 2 (k : Int) 0 0) xx HLW.out.lrow (by omega) (fun q hq => (HLW.out.ok q hq).2) (bareP10_ok _ _ _ _ _ _) (bareD_small _ _ _ _ _)
                  rw [show (bareP10 T 2 (k : Int) 0 0).s = (bareD T 2 (k : Int) 0 0) from rfl, hX] at h
                  exact h)
                have HXC := Lib.hid hch; have HXF := Lib.hid (And.intro hxk (And.intro hxa (And.intro hxc hxt))); have HXL := Lib.hid (And.intro hxl hxp)
                clear hX hch hxk hxa hxc hxt hxl hxp
                go_wp2_with (refine wpList_load_row rfl 34 (.tmp 9) rfl g rfl 34 (bareP10 T 2 (k : Int) 0 0).arr (0, 0) _ HG.out Try.underlying34 rfl (bareP10 T 2 (k : Int) 0 0).info ?_)
                refine HCALL.out.mono ?_
                clear HCALL
                rintro e y1 ⟨q, rfl, hqs, hqo, -, -, hb⟩
                have HQE := Lib.hid hqs
                have HQB : Hid ((∀ y, PlOk y q) ∧ Small q.s) := Lib.hid ⟨bare_ok hqo (by rw [hqs]; exact HXL.out.1) (by rw [hqs]; exact HXL.out.2), by rw [hqs]; exact HXS.out⟩
                have HLW1 := Lib.hid (HLW.out.later hb); have HR1 := Lib.hid (HRR.out.later hb)
                have HG1 := Lib.hid ((hb.block g (Array.getElem?_eq_some_iff.1 HG.out).1).trans HG.out)
                clear hqs hqo hb HLW HRR HG HXS HXL
                go_upto_region 18 with (refine wpList_store_new rfl 34 (.tmp 11) (.tmp 80) rfl 34 _ q.arr rfl rfl q.info rfl q.one ?_)
                have HNW := Lib.hid (one_new y1 (.cells q.arr 34))
                have HG8 : Hid ((y1.alloc (.cells q.arr 34)).heap[y1.heap.size]? = some (.cells q.arr 34 (0, 0))) := Lib.hid (heap_alloc_new _ _)
                have HLW2 := Lib.hid (HLW1.out.later HNW.out); have HR2 := Lib.hid (HR1.out.later HNW.out)
                have HG2 := Lib.hid ((HNW.out.block g (Array.getElem?_eq_some_iff.1 HG1.out).1).trans HG1.out)
                clear HNW HLW1 HR1 HG1
                generalize y1.alloc (.cells q.arr 34) = y2 at *
                generalize y1.heap.size = g8 at *
                have hvs : q.arr.size = 13 := rfl
                have hy2 : w1.heap.size ≤ y2.heap.size := HR2.out.but.size
                go_upto_region 21 with (first | (refine wpList_load_row rfl 34 (.tmp 11) rfl g8 rfl 34 q.arr (0, 0) _ HG8.out Try.underlying34 rfl q.info ?_) | (at_builtin; (first | rw [fold13] | (rw [← hvs, fold13])); go_must (refine wpList_app_newK y2 rfl (.tmp 84) (.tmp 86) 27 34 rfl w1.heap.size Try.underlying27 stm_info rfl _ l'.length (plsC l') HLW2.out.o4 rfl 1 q.arr rfl q.ones rfl rfl (by unfold maxLen; omega) (by omega) hy2 ?_); intro v4n z3 ho hb hk1 hk2; rw [show q.arr.toList = plsC [q] from rfl] at ho; have HLW3 := Lib.hid (HLW2.out.app4 HQB.out ho hk1); have HB3 := Lib.hid hb; have HG3 := Lib.hid ((hk1 g (Array.getElem?_eq_some_iff.1 HG2.out).1 (fun e => by have := own_lt HQ.out.1.o4 g e; omega)).trans HG2.out); clear ho hb hk1 hk2))
                have HR3 : Hid (Rnd L D t w1 z3) := Lib.hid ⟨HR2.out.but.grow HB3.out, by obtain ⟨k, hk⟩ := HR2.out.dice; exact ⟨k, hk.below HB3.out hDw⟩⟩
                have hz3 : w1.heap.size ≤ z3.heap.size := HR3.out.but.size
                clear HLW2 HR2 HG2 HG8 HQB HB3
                have hc4 : z3.cell? ⟨g, 4, none⟩ = some (.int .i64 2) := (cell_of_row _ _ 4 _ _ _ HG3.out).trans rfl
                skip
                go_wp2_with (first | (at_builtin; (refine wpList_app_newK z3 rfl (.tmp 99) (.tmp 100) 22 3 rfl w1.heap.size Try.underlying22 i64_info rfl _ ends.length (intsV ends) HLW3.out.o5 rfl 1 #[.int .i64 (-1)] rfl (by simp [Value.oneCell']) rfl rfl (by unfold maxLen; omega) (by omega) (by omega) ?_); intro v5n z4 ho hb hk1 hk2; rw [show (#[Value.int .i64 (-1)] : Array Value).toList = intsV [(-1)] from rfl] at ho; have HLW4 := Lib.hid (HLW3.out.app5 ho hk1 hk2); have HBz4 := Lib.hid hb; have hsz4 : w1.heap.size ≤ z4.heap.size := Nat.le_trans hz3 (Nat.le_trans (Nat.le_refl _) hb.size); clear ho hb hk1 hk2) | (at_builtin; (refine wpList_app_newK z4 rfl (.tmp 102) (.tmp 103) 22 3 rfl w1.heap.size Try.underlying22 i64_info rfl _ rev2.length (intsV rev2) HLW4.out.o6 rfl 1 #[.int .i64 (-1)] rfl (by simp [Value.oneCell']) rfl rfl (by unfold maxLen; omega) (by omega) (by omega) ?_); intro v6n z5 ho hb hk1 hk2; rw [show (#[Value.int .i64 (-1)] : Array Value).toList = intsV [(-1)] from rfl] at ho; have HLW5 := Lib.hid (HLW4.out.app6 ho hk1 hk2); have HBz5 := Lib.hid hb; have hsz5 : w1.heap.size ≤ z5.heap.size := Nat.le_trans hz3 (Nat.le_trans HBz4.out.size hb.size); clear ho hb hk1 hk2))
                have HR5 : Hid (Rnd L D t w1 z5) := Lib.hid ⟨(HR3.out.but.grow HBz4.out).grow HBz5.out, by obtain ⟨k, hk⟩ := HR3.out.dice; exact ⟨k, (hk.below HBz4.out hDw).below HBz5.out hDw⟩⟩
                have HLI2 : Hid (LastI ((l' ++ [q]).map (·.s)) (ends ++ [(-1)]) (rev2 ++ [-1])) := Lib.hid (by
                  rw [List.map_append, List.map_cons, List.map_nil, HQE.out]
                  have h := HLI.out.revoke (k := k) (by rw [List.length_map]; exact hkl) HXC.out HXF.out.1 HXF.out.2.1
                  rw [HXF.out.2.2.2, HRE.out] at h
                  exact h)
                have HLT2 : Hid (0 < (l' ++ [q]).length → (lastL ((l' ++ [q]).map (·.s))).time ≤ T) := Lib.hid fun _ => by rw [List.map_append, List.map_cons, List.map_nil, lastL_snoc, HQE.out, HXF.out.2.2.2]; exact Int.le_refl _
                go_roundg (m - 1)
                case measure => omega
                case rel => exact ⟨m - 1, T, l' ++ [q], ends ++ [(-1)], rev2 ++ [-1], by go_num, Nat.le_refl _, rfl, by omega, hs1, by rw [List.length_append]; show l'.length + 1 + (m - 1) = N1 + 1; omega, Lib.hid ⟨HLW5.out, HR5.out⟩, HLI2, HLT2⟩
            · have d0 : decide (ev ≥ 0) = false := decide_eq_false he0
              have d0' : decide (0 ≤ ev) = false := d0
              have HRE : Hid (revSet ends rev k T = rev) := Lib.hid (by rw [HRS.out, if_neg (fun h => he0 h.1)])
              have HRR : Hid (Rnd L D t w1 x7) := Lib.hid ⟨HQ.out.2.but.trans HS5.out.but, HS5.out.dice⟩
              clear he0 HRS
              go_upto_region 17 with fail
              clear d0 d0' hc5 hc6 HS5
              obtain ⟨rev2, hrev2⟩ : ∃ r, r = rev := ⟨_, rfl⟩
              rw [← hrev2] at HLW
              replace HRE : Hid (revSet ends rev k T = rev2) := Lib.hid (by rw [HRE.out, hrev2])
              rw [← hrev2]
              clear hrev2
              rename World => xx
              have hrl : rev2.length ≤ 6 := by have h := revSet_len ends rev k T; rw [HRE.out] at h; have := HE2.out; omega
              have hel : ends.length ≤ 6 := by have := HE1.out; omega
              obtain ⟨X, hX, hch, hxk, hxa, hxc, hxt, hxl, hxp⟩ := nextP_last (T := T) HLI.out (by rw [List.length_map]; omega) (by omega) (fun h0 => by have := HLT.out (by rwa [List.length_map] at h0); omega) (.inr ⟨rfl, by omega, by omega, rfl, rfl⟩ : ((2 : Int) = 1 ∧ (0 : Int) ≤ k ∧ (k : Int) ≤ 63 ∧ (k : Int) ≠ 3 ∧ (1 : Int) ≤ 0 ∧ (0 : Int) ≤ 3 ∧ T ≤ 0 ∧ (0 : Int) ≤ 2000000) ∨ ((2 : Int) = 2 ∧ (0 : Int) ≤ k ∧ (k : Int) ≤ 199 ∧ (0 : Int) = 0 ∧ (0 : Int) = 0))
              have HXS : Hid (Small X) := Lib.hid (by have h := nextP_small (au := 3) (l := l'.map (·.s)) (bareD_small T 2 (k : Int) 0 0); rw [hX] at h; exact h)
              have HCALL : Hid (Calls Try.prog 12 #[.int .i64 3, .slice A4 l'.length c4, .agg (bareP10 T 2 (k : Int) 0 0).arr] xx (GivesX xx X 0)) := Lib.hid (by
                have h := nextP_any 3 A4 l'.length c4 l' (bareP10 T 2 (k : Int) 0 0) xx HLW.out.lrow (by omega) (fun q hq => (HLW.out.ok q hq).2) (bareP10_ok _ _ _ _ _ _) (bareD_small _ _ _ _ _)
                rw [show (bareP10 T 2 (k : Int) 0 0).s = (bareD T 2 (k : Int) 0 0) from rfl, hX] at h
                exact h)
              have HXC := Lib.hid hch; have HXF := Lib.hid (And.intro hxk (And.intro hxa (And.intro hxc hxt))); have HXL := Lib.hid (And.intro hxl hxp)
              clear hX hch hxk hxa hxc hxt hxl hxp
              go_wp2_with (refine wpList_load_row rfl 34 (.tmp 9) rfl g rfl 34 (bareP10 T 2 (k : Int) 0 0).arr (0, 0) _ HG.out Try.underlying34 rfl (bareP10 T 2 (k : Int) 0 0).info ?_)
              refine HCALL.out.mono ?_
              clear HCALL
              rintro e y1 ⟨q, rfl, hqs, hqo, -, -, hb⟩
              have HQE := Lib.hid hqs
              have HQB : Hid ((∀ y, PlOk y q) ∧ Small q.s) := Lib.hid ⟨bare_ok hqo (by rw [hqs]; exact HXL.out.1) (by rw [hqs]; exact HXL.out.2), by rw [hqs]; exact HXS.out⟩
              have HLW1 := Lib.hid (HLW.out.later hb); have HR1 := Lib.hid (HRR.out.later hb)
              have HG1 := Lib.hid ((hb.block g (Array.getElem?_eq_some_iff.1 HG.out).1).trans HG.out)
              clear hqs hqo hb HLW HRR HG HXS HXL
              go_upto_region 18 with (refine wpList_store_new rfl 34 (.tmp 11) (.tmp 80) rfl 34 _ q.arr rfl rfl q.info rfl q.one ?_)
              have HNW := Lib.hid (one_new y1 (.cells q.arr 34))
              have HG8 : Hid ((y1.alloc (.cells q.arr 34)).heap[y1.heap.size]? = some (.cells q.arr 34 (0, 0))) := Lib.hid (heap_alloc_new _ _)
              have HLW2 := Lib.hid (HLW1.out.later HNW.out); have HR2 := Lib.hid (HR1.out.later HNW.out)
              have HG2 := Lib.hid ((HNW.out.block g (Array.getElem?_eq_some_iff.1 HG1.out).1).trans HG1.out)
              clear HNW HLW1 HR1 HG1
              generalize y1.alloc (.cells q.arr 34) = y2 at *
              generalize y1.heap.size = g8 at *
              have hvs : q.arr.size = 13 := rfl
              have hy2 : w1.heap.size ≤ y2.heap.size := HR2.out.but.size
              go_upto_region 21 with (first | (refine wpList_load_row rfl 34 (.tmp 11) rfl g8 rfl 34 q.arr (0, 0) _ HG8.out Try.underlying34 rfl q.info ?_) | (at_builtin; (first | rw [fold13] | (rw [← hvs, fold13])); go_must (refine wpList_app_newK y2 rfl (.tmp 84) (.tmp 86) 27 34 rfl w1.heap.size Try.underlying27 stm_info rfl _ l'.length (plsC l') HLW2.out.o4 rfl 1 q.arr rfl q.ones rfl rfl (by unfold maxLen; omega) (by omega) hy2 ?_); intro v4n z3 ho hb hk1 hk2; rw [show q.arr.toList = plsC [q] from rfl] at ho; have HLW3 := Lib.hid (HLW2.out.app4 HQB.out ho hk1); have HB3 := Lib.hid hb; have HG3 := Lib.hid ((hk1 g (Array.getElem?_eq_some_iff.1 HG2.out).1 (fun e => by have := own_lt HQ.out.1.o4 g e; omega)).trans HG2.out); clear ho hb hk1 hk2))
              have HR3 : Hid (Rnd L D t w1 z3) := Lib.hid ⟨HR2.out.but.grow HB3.out, by obtain ⟨k, hk⟩ := HR2.out.dice; exact ⟨k, hk.below HB3.out hDw⟩⟩
              have hz3 : w1.heap.size ≤ z3.heap.size := HR3.out.but.size
              clear HLW2 HR2 HG2 HG8 HQB HB3
              have hc4 : z3.cell? ⟨g, 4, none⟩ = some (.int .i64 2) := (cell_of_row _ _ 4 _ _ _ HG3.out).trans rfl
              skip
              go_wp2_with (first | (at_builtin; (refine wpList_app_newK z3 rfl (.tmp 99) (.tmp 100) 22 3 rfl w1.heap.size Try.underlying22 i64_info rfl _ ends.length (intsV ends) HLW3.out.o5 rfl 1 #[.int .i64 (-1)] rfl (by simp [Value.oneCell']) rfl rfl (by unfold maxLen; omega) (by omega) (by omega) ?_); intro v5n z4 ho hb hk1 hk2; rw [show (#[Value.int .i64 (-1)] : Array Value).toList = intsV [(-1)] from rfl] at ho; have HLW4 := Lib.hid (HLW3.out.app5 ho hk1 hk2); have HBz4 := Lib.hid hb; have hsz4 : w1.heap.size ≤ z4.heap.size := Nat.le_trans hz3 (Nat.le_trans (Nat.le_refl _) hb.size); clear ho hb hk1 hk2) | (at_builtin; (refine wpList_app_newK z4 rfl (.tmp 102) (.tmp 103) 22 3 rfl w1.heap.size Try.underlying22 i64_info rfl _ rev2.length (intsV rev2) HLW4.out.o6 rfl 1 #[.int .i64 (-1)] rfl (by simp [Value.oneCell']) rfl rfl (by unfold maxLen; omega) (by omega) (by omega) ?_); intro v6n z5 ho hb hk1 hk2; rw [show (#[Value.int .i64 (-1)] : Array Value).toList = intsV [(-1)] from rfl] at ho; have HLW5 := Lib.hid (HLW4.out.app6 ho hk1 hk2); have HBz5 := Lib.hid hb; have hsz5 : w1.heap.size ≤ z5.heap.size := Nat.le_trans hz3 (Nat.le_trans HBz4.out.size hb.size); clear ho hb hk1 hk2))
              have HR5 : Hid (Rnd L D t w1 z5) := Lib.hid ⟨(HR3.out.but.grow HBz4.out).grow HBz5.out, by obtain ⟨k, hk⟩ := HR3.out.dice; exact ⟨k, (hk.below HBz4.out hDw).below HBz5.out hDw⟩⟩
              have HLI2 : Hid (LastI ((l' ++ [q]).map (·.s)) (ends ++ [(-1)]) (rev2 ++ [-1])) := Lib.hid (by
                rw [List.map_append, List.map_cons, List.map_nil, HQE.out]
                have h := HLI.out.revoke (k := k) (by rw [List.length_map]; exact hkl) HXC.out HXF.out.1 HXF.out.2.1
                rw [HXF.out.2.2.2, HRE.out] at h
                exact h)
              have HLT2 : Hid (0 < (l' ++ [q]).length → (lastL ((l' ++ [q]).map (·.s))).time ≤ T) := Lib.hid fun _ => by rw [List.map_append, List.map_cons, List.map_nil, lastL_snoc, HQE.out, HXF.out.2.2.2]; exact Int.le_refl _
              go_roundg (m - 1)
              case measure => omega
              case rel => exact ⟨m - 1, T, l' ++ [q], ends ++ [(-1)], rev2 ++ [-1], by go_num, Nat.le_refl _, rfl, by omega, hs1, by rw [List.length_append]; show l'.length + 1 + (m - 1) = N1 + 1; omega, Lib.hid ⟨HLW5.out, HR5.out⟩, HLI2, HLT2⟩
      · have hm2 : ¬ (0 : Int) < (m : Int) := by omega
        go_wp2_with fail
        rename World => w3
        clear hm2
        have HL3 := Lib.hid HQ.out.1.lrow; have HI5 := Lib.hid (own_irow HQ.out.1.o5); have HI6 := Lib.hid (own_irow HQ.out.1.o6)
        have HB3 := Lib.hid (HB.out.trans (HQ.out.2.but.below (by have := HDD.out; omega) HB.out.size))
        obtain ⟨S, hS⟩ : ∃ S, l'.map (·.s) = S := ⟨_, rfl⟩
        have HSE := Lib.hid hS
        have HSL : Hid (S.length = l'.length) := Lib.hid (by rw [← hS, List.length_map])
        rw [hS] at HLI
        clear hS HQ HLT HB
        have hnl : l'.length ≤ 100000 := by omega
        go_loopg [13] 40 (fun gk i13 wr => ∃ j : Nat, i13 = .int .i64 j ∧ j ≤ 40 ∧ 40 - j ≤ gk ∧ Hid (Below w3.heap.size w3 wr))
        case atStart => exact ⟨0, rfl, by omega, by omega, Lib.hid (Below.refl _ _)⟩
        case round =>
          obtain ⟨j, rfl, hj, hgk, HQ⟩ := hrel
          by_cases hlt : j < 40
          · have hlt2 : (j : Int) < 40 := by omega
            go_wp2_with fail
            clear hlt2
            go_loopg [14, 15] l'.length (fun gk2 i14 i15 wr2 => ∃ i : Nat, i15 = .int .i64 i ∧ i ≤ l'.length ∧ l'.length - i ≤ gk2 ∧ i14 = .int .i64 (lastUp S ends j i) ∧ Hid (Below wr.heap.size wr wr2))
            case atStart => exact ⟨0, rfl, Nat.zero_le _, by omega, rfl, Lib.hid (Below.refl _ _)⟩
            case round =>
              obtain ⟨i, rfl, hi, hgk2, rfl, HQ2⟩ := hrel
              by_cases hil : i < l'.length
              · have hil2 : (i : Int) < (l'.length : Int) := by omega
                have hie : i < ends.length := by have := HE1.out; omega
                have hie2 : (i : Int) < (ends.length : Int) := by omega
                have HBB := Lib.hid (HQ.out.trans (HQ2.out.mono HQ.out.size))
                obtain ⟨b5, o5, hA5, hc5⟩ := IRow.cell (Row.later HI5.out HBB.out) i hie
                obtain ⟨b4, o4, hA4, hc4⟩ := (HL3.out.later HBB.out).cells i hil
                subst hA5 hA4
                obtain ⟨ev, hev⟩ : ∃ e, ends.getD i 0 = e := ⟨_, rfl⟩
                obtain ⟨tv, htv⟩ : ∃ e, (S.getD i noStm).time = e := ⟨_, rfl⟩
                obtain ⟨lv, hlv⟩ : ∃ e, lastUp S ends j i = e := ⟨_, rfl⟩
                have HLU : Hid (lastUp S ends j (i + 1) = if 0 ≤ ev ∧ tv ≤ (j : Int) then (i : Int) else lv) := Lib.hid (by rw [lastUp, hev, htv, hlv])
                have hct : wr.cell? ⟨b4, o4 + i * 13 + 3, none⟩ = some (.int .i64 tv) := by
                  have h := hc4 3 (by rw [Pl.size]; decide)
                  rw [← htv, ← HSE.out, getD_s]
                  exact h
                rw [hev] at hc5
                rw [hlv]
                clear hc4 hev htv hlv
                by_cases he0 : 0 ≤ ev
                · have d0 : decide (ev ≥ 0) = true := decide_eq_true he0
                  have d0' : decide (0 ≤ ev) = true := d0
                  by_cases ht0 : tv ≤ (j : Int)
                  · have d1 : decide (tv ≤ (j : Int)) = true := decide_eq_true ht0
                    have HLE : Hid (lastUp S ends j (i + 1) = (i : Int)) := Lib.hid (by rw [HLU.out, if_pos ⟨he0, ht0⟩])
                    clear HLU he0 ht0
                    go_wp2_with fail
                    clear d0 d0' d1 hc5 hct
                    go_roundg (l'.length - (i + 1))
                    case measure => omega
                    case rel => exact ⟨i + 1, by go_num, by omega, Nat.le_refl _, by rw [HLE.out], HQ2⟩
                  · have d1 : decide (tv ≤ (j : Int)) = false := decide_eq_false ht0
                    have HLE : Hid (lastUp S ends j (i + 1) = lv) := Lib.hid (by rw [HLU.out, if_neg (fun h => ht0 h.2)])
                    clear HLU he0 ht0
                    go_wp2_with fail
                    clear d0 d0' d1 hc5 hct
                    go_roundg (l'.length - (i + 1))
                    case measure => omega
                    case rel => exact ⟨i + 1, by go_num, by omega, Nat.le_refl _, by rw [HLE.out], HQ2⟩
                · have d0 : decide (ev ≥ 0) = false := decide_eq_false he0
                  have d0' : decide (0 ≤ ev) = false := d0
                  have HLE : Hid (lastUp S ends j (i + 1) = lv) := Lib.hid (by rw [HLU.out, if_neg (fun h => he0 h.1)])
                  clear HLU he0
                  go_wp2_with fail
                  clear d0 d0' hc5 hct
                  go_roundg (l'.length - (i + 1))
                  case measure => omega
                  case rel => exact ⟨i + 1, by go_num, by omega, Nat.le_refl _, by rw [HLE.out], HQ2⟩
              · have hil2 : ¬ (i : Int) < (l'.length : Int) := by omega
                have hie : i = S.length := by have := HSL.out; omega
                rw [hie]
                have HBT := Lib.hid (HLI.out.between (j : Int))
                obtain ⟨lv, hlv⟩ : ∃ e, lastUp S ends j S.length = e := ⟨_, rfl⟩
                obtain ⟨RR, hrr⟩ : ∃ e, betweenS S 3 5 (j : Int) = e := ⟨_, rfl⟩
                rw [hlv, hrr] at HBT
                rw [hlv]
                have HRR := Lib.hid hrr
                have HBB := Lib.hid (HQ.out.trans (HQ2.out.mono HQ.out.size))
                have hil3 : ¬ (S.length : Int) < (l'.length : Int) := by have := HSL.out; omega
                clear hlv hrr hie hil2 hi hgk2 hil
                obtain ⟨sl, hsl⟩ : ∃ e, S.length = e := ⟨_, rfl⟩
                rw [hsl] at hil3 ⊢
                have HSN := Lib.hid hsl
                clear hsl
                go_wp2_with fail
                clear hil3
                refine (H.between A4 l'.length c4 l' 3 5 (j : Int) wr (HL3.out.later HBB.out) hnl (by rw [HSE.out]; exact HLI.out.ch.ord10)).mono ?_
                rw [HSE.out, HRR.out]
                rintro e wb ⟨rfl, hb⟩
                have HBW := Lib.hid (HBB.out.trans (hb.mono HBB.out.size))
                obtain ⟨q, ok⟩ := RR
                clear hb
                go_upto_region 34 with (refine wpList_store_new rfl 49 (.tmp 16) (.tmp 134) rfl 49 _ q.arr rfl rfl q.info rfl q.one ?_)
                have HN := Lib.hid (one_new wb (.cells q.arr 49))
                have HX : Hid ((wb.alloc (.cells q.arr 49)).heap[wb.heap.size]? = some (.cells q.arr 49 (0, 0))) := Lib.hid (heap_alloc_new _ _)
                have HBX := Lib.hid (HBW.out.trans (HN.out.mono HBW.out.size))
                clear HN HBW HBB
                generalize wb.alloc (.cells q.arr 49) = xb at *
                generalize wb.heap.size = gb at *
                have hx3 : xb.cell? ⟨gb, 3, none⟩ = some (.int .i64 q.nu) := (cell_of_row _ _ 3 _ _ _ HX.out).trans rfl
                rcases HBT.out with ⟨h1, h2⟩ | ⟨k, hk, h1, h2⟩
                · have hok : ok = false := congrArg Prod.snd h2
                  subst h1 hok
                  clear h2 HRR HBT
                  go_wp2_with fail
                  go_roundg (40 - (j + 1))
                  case measure => omega
                  case rel => exact ⟨j + 1, by go_num, by omega, Nat.le_refl _, HBX⟩
                · have hke : k < ends.length := by have := HE1.out; have := HSL.out; omega
                  have hkr : k < rev.length := by have := HE2.out; have := HSL.out; omega
                  have hke2 : (k : Int) < (ends.length : Int) := by omega
                  have hkr2 : (k : Int) < (rev.length : Int) := by omega
                  obtain ⟨b5, o5, hA5, hc5⟩ := IRow.cell (Row.later HI5.out HBX.out) k hke
                  obtain ⟨b6, o6, hA6, hc6⟩ := IRow.cell (Row.later HI6.out HBX.out) k hkr
                  subst hA5 hA6
                  subst h1
                  have HNU : Hid ((vouOf S (S.getD k noStm)).nu = (k : Int)) := Lib.hid (HLI.out.ch.each k hk).2.1
                  obtain ⟨ev, hev⟩ : ∃ e, ends.getD k 0 = e := ⟨_, rfl⟩
                  obtain ⟨rv, hrv⟩ : ∃ e, rev.getD k 0 = e := ⟨_, rfl⟩
                  rw [hev, hrv] at h2
                  rw [hev] at hc5
                  rw [hrv] at hc6
                  have H2 := Lib.hid h2
                  clear h2 hev hrv HBT HRR
                  have hl0 : decide ((k : Int) ≥ 0) = true := decide_eq_true (by omega)
                  have hl0' : decide ((0 : Int) ≤ (k : Int)) = true := hl0
                  by_cases c1 : (j : Int) < ev
                  · have d1 : decide ((j : Int) < ev) = true := decide_eq_true c1
                    by_cases c2 : rv < 0
                    · have d2 : decide (rv < 0) = true := decide_eq_true c2
                      have h3 := H2.out
                      rw [if_pos ⟨c1, .inl c2⟩] at h3
                      injection h3 with h4 h5
                      subst h5
                      have hq : (q.nu != (k : Int)) = false := by rw [h4, HNU.out]; simp
                      clear c1 c2 h4 H2 HNU
                      go_wp2_with fail
                      go_roundg (40 - (j + 1))
                      case measure => omega
                      case rel => exact ⟨j + 1, by go_num, by omega, Nat.le_refl _, HBX⟩
                    · have d2 : decide (rv < 0) = false := decide_eq_false c2
                      by_cases c3 : (j : Int) < rv
                      · have d3 : decide (rv > (j : Int)) = true := decide_eq_true c3
                        have d3' : decide ((j : Int) < rv) = true := d3
                        have h3 := H2.out
                        rw [if_pos ⟨c1, .inr c3⟩] at h3
                        injection h3 with h4 h5
                        subst h5
                        have hq : (q.nu != (k : Int)) = false := by rw [h4, HNU.out]; simp
                        clear c1 c2 c3 h4 H2 HNU
                        go_wp2_with fail
                        go_roundg (40 - (j + 1))
                        case measure => omega
                        case rel => exact ⟨j + 1, by go_num, by omega, Nat.le_refl _, HBX⟩
                      · have d3 : decide (rv > (j : Int)) = false := decide_eq_false c3
                        have d3' : decide ((j : Int) < rv) = false := d3
                        have h3 := H2.out
                        rw [if_neg (fun h => by rcases h.2 with g | g; exact c2 g; exact c3 g)] at h3
                        injection h3 with h4 h5
                        subst h5
                        clear c1 c2 c3 h4 H2 HNU
                        go_wp2_with fail
                        go_roundg (40 - (j + 1))
                        case measure => omega
                        case rel => exact ⟨j + 1, by go_num, by omega, Nat.le_refl _, HBX⟩
                  · have d1 : decide ((j : Int) < ev) = false := decide_eq_false c1
                    have h3 := H2.out
                    rw [if_neg (fun h => c1 h.1)] at h3
                    injection h3 with h4 h5
                    subst h5
                    clear c1 h4 H2 HNU
                    go_wp2_with fail
                    go_roundg (40 - (j + 1))
                    case measure => omega
                    case rel => exact ⟨j + 1, by go_num, by omega, Nat.le_refl _, HBX⟩
          · have hlt2 : ¬ (j : Int) < 40 := by omega
            go_wp2_with fail
            refine (HAW.out wr).mono ?_
            rintro e wz ⟨rfl, hbz⟩
            have HBZ := Lib.hid ((HB3.out.trans (HQ.out.mono HB3.out.size)).trans (hbz.mono (HB3.out.trans (HQ.out.mono HB3.out.size)).size))
            clear hbz
            go_wp2_with fail
            go_ret
            exact ⟨rfl, HBZ.out⟩
  · have gd : decide (tn ≤ 400) = false := decide_eq_false hn
    go_wp2_with fail
    clear gd
    refine (HAW.out w).mono ?_
    rintro e w1 ⟨rfl, hb⟩
    have HB := Lib.hid hb; clear hb
    go_wp2_with fail
    go_ret
    exact ⟨rfl, HB.out⟩
end Go.Proofs.Ytjmapbaofpilaaa
