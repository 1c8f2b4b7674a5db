import Derived.Test.YtnmpbjgccbnomaaGreatPackBD
import Derived.Test.YtnmpbjgccbnomaaGreatPackBB
import Derived.Test.YtnmpbjgccbnomaaGreatPackAA
import Derived.ProofKit
import Derived.OpenShut
import Derived.Carry
import Derived.Handed
import Derived.ChangeMaps5
/- The walk of the law GraphAt, over any program that gives what layer 11 asks. -/
namespace Go.Proofs.YtnmpbjgccbnomaaGreat
open Go.RowKit
/-- What the program's At gives. -/
structure AtC : Prop where
  at_ : ∀ (A : Option Addr) (n c : Nat) (l : List Pl) (tm lv : Int) (w : World), LRow w A n c l → n ≤ 100000 → Ord10 (l.map (·.s)) → Calls Tryz.prog 11 #[.slice A n c, .int .i64 tm, .int .i64 lv] w (GivesGE w (atG (l.map (·.s)) tm lv))
theorem atG_few {L : List Stm} (h : Ord10 L) (tm lv : Int) : (atG L tm lv).1.es.length ≤ 100000 ∧ (atG L tm lv).1.gn.length ≤ 100000 := (atG_good h tm lv).few
theorem refsame_self (G : Gr) (v u : Value) (w : World) (h : GHold w G v) (h2 : GHold w G u) (he : G.es.length ≤ 100000) (hg : G.gn.length ≤ 100000) : Calls Tryz.prog 14 #[v, u] w (SaysL (.bool true) w) := by
  obtain ⟨A, n, c, B, m, k, rfl, ha, hb⟩ := h
  obtain ⟨A2, n2, c2, B2, m2, k2, rfl, ha2, hb2⟩ := h2
  have hn : n ≤ 100000 := by rw [← ERow.len ha]; exact he
  have hm : m ≤ 100000 := by rw [← hb.len]; exact hg
  have h := gsame_any G.sz A n c G.es B m k G.gn G.sz A2 n2 c2 G.es B2 m2 k2 G.gn w ha hb ha2 hb2 hn hm
  rwa [sameG_self] at h
set_option maxRecDepth 100000 in
set_option maxHeartbeats 4000000 in
theorem gat_law (H : GraphC) (K : AtC) (TA : Option Addr) (tn tc : Nat) (t : List Int) (tm lv : Int) (w : World) (ht : IRow w TA tn tc t) :
    Calls Tryz.prog 3 #[.slice TA tn tc, .int .i64 tm, .int .i64 lv] w (SaysL (.bool true) w) := by
  have HAW : Hid (∀ y, Calls Tryz.prog 6 #[] y (SaysL (.bool true) y)) := Lib.hid fun y => awake11_any H y
  have HT := Lib.hid ht; clear ht
  go_enter Tryz.func3, Tryz.ntmps3
  go_wp2_with fail
  refine (light_any TA tn tc w).mono ?_
  rintro e w0 ⟨rfl, rfl⟩
  by_cases hn : tn ≤ 400
  · have gd : decide (tn ≤ 400) = true := decide_eq_true hn
    go_wp2_with fail
    clear gd
    refine (roll_any w.heap.size TA tn tc t w HT.out (by omega) (Nat.le_refl _) (fun ad e h0 => Row.lt HT.out (by decide) ad e h0)).mono ?_
    rintro e w1 ⟨rfl, hd, hb⟩
    obtain ⟨D, hD⟩ : ∃ D, D = w.heap.size := ⟨_, rfl⟩
    have HD : Hid (∃ k, DiceAt w1 w.heap.size D t k) := Lib.hid ⟨0, by rw [hD]; exact hd⟩
    have HB := Lib.hid hb
    have HDD : Hid (w.heap.size = D) := Lib.hid hD.symm
    rw [← hD]
    clear hd hb hD HT
    go_wp2_with fail
    refine (dstore_g w.heap.size D t 6 w1 HD.out (by omega)).mono ?_
    rintro e w2 ⟨A2, c2, l2, rfl, hr2, hs2, hl2, hg⟩
    have HB2 := Lib.hid (HB.out.trans (hg.2.below (by have := HDD.out; omega) HB.out.size))
    have HR2 := Lib.hid hr2; have HS2 := Lib.hid hs2
    clear hr2 hs2 hg HB HD
    go_wp2_with fail
    refine (countedAll_hi A2 l2.length c2 l2 w2 HR2.out (by omega) HS2.out).mono ?_
    rintro e w4 ⟨v, l, rfl, hm, ho, hhi, hb⟩
    obtain ⟨A, c, hv, hr⟩ := ho.row
    subst hv
    have HL := Lib.hid hr
    have HB := Lib.hid (HB2.out.trans (hb.mono HB2.out.size))
    have HO : Hid (Ord10 (l.map (·.s))) := Lib.hid (by rw [hm]; exact ord10_counted _)
    have hl5 : l.length ≤ 500 := by
      have h1 := countedAll_len (l2.map (·.s))
      rw [List.length_map] at h1
      have h2 := congrArg List.length hm
      rw [List.length_map] at h2
      omega
    have hln : l.length ≤ 100000 := by omega
    have HL5 : Hid ((l.map (·.s)).length ≤ 500) := Lib.hid (by rw [List.length_map]; exact hl5)
    have HFW : Hid (∀ s v, (atG (l.map (·.s)) s v).1.es.length ≤ 100000 ∧ (atG (l.map (·.s)) s v).1.gn.length ≤ 100000) := Lib.hid fun s v => atG_few HO.out s v
    clear hm ho hhi hb hr HR2 HS2 HB2 hl2 hl5
    have HP : Hid (∀ (s v : Int) y, LRow y A l.length c l → Calls Tryz.prog 11 #[.slice A l.length c, .int .i64 s, .int .i64 v] y (GivesGE y (atG (l.map (·.s)) s v))) := Lib.hid fun s v y h => K.at_ A l.length c l s v y h hln HO.out
    have HQR : Hid (∀ (s v : Int) y, LRow y A l.length c l → Calls Tryz.prog 12 #[.slice A l.length c, .int .i64 s, .int .i64 v] y (GivesGE y (atG (l.map (·.s)) s v))) := Lib.hid fun s v y h => (gat_any A l.length c l s v y h hln).mono fun _ _ h => h.weak
    have HLV : Hid (∀ y v, GHold y (atG (l.map (·.s)) (modF tm 70) 1).1 v → Calls Tryz.prog 15 #[v, .int .i64 3] y (GivesG y (atG (l.map (·.s)) (modF tm 70) 3).1)) := Lib.hid fun y v h => by
      rw [← at_level HL5.out]
      exact H.level _ v 3 y h (atG_good HO.out _ _)
    generalize l.length = n at *
    generalize hS : l.map (·.s) = S at *
    clear hS
    generalize atG S = AT at *
    go_wp2_with fail
    generalize hgs : w4.heap.size = gs at *
    have hbx := one_new w4 (.cells #[.int .i64 1, .int .i64 2, .int .i64 3, .int .i64 lv] 3)
    have HX : Hid ((w4.alloc (.cells #[.int .i64 1, .int .i64 2, .int .i64 3, .int .i64 lv] 3)).heap[gs]? = some (.cells #[.int .i64 1, .int .i64 2, .int .i64 3, .int .i64 lv] 3 (0, 0))) := Lib.hid (by rw [← hgs]; exact heap_alloc_new _ _)
    replace HL := Lib.hid (HL.out.later hbx); replace HB := Lib.hid (HB.out.trans (hbx.mono HB.out.size))
    clear hbx hgs
    generalize w4.alloc (.cells #[.int .i64 1, .int .i64 2, .int .i64 3, .int .i64 lv] 3) = y4 at *
    go_loopw [33] (fun i wr => ∃ j : Nat, j ≤ 4 ∧ i = .int .i64 j ∧ Hid (LRow wr A n c l ∧ Below w.heap.size w wr ∧ wr.heap[gs]? = some (.cells #[.int .i64 1, .int .i64 2, .int .i64 3, .int .i64 lv] 3 (0, 0)))) (fun i _ => 4 - (intOf i).toNat)
    case atStart => exact ⟨0, Nat.zero_le _, rfl, Lib.hid ⟨HL.out, HB.out, HX.out⟩⟩
    case round =>
      clear HL HB HX
      obtain ⟨j, hj, rfl, HQ⟩ := hrel
      have HL := Lib.hid HQ.out.1; have HB := Lib.hid HQ.out.2.1
      by_cases hjl : j < 4
      · have hj2 : (j : Int) < 4 := by omega
        have hc : wr.cell? ⟨gs, j, none⟩ = some (.int .i64 ([1, 2, 3, lv].getD j 0)) := (cell_of_row _ _ j _ _ _ HQ.out.2.2).trans (by rcases j with _ | _ | _ | _ | j <;> first | rfl | omega)
        have HX := Lib.hid HQ.out.2.2
        clear HQ
        generalize [1, 2, 3, lv].getD j 0 = xv at *
        go_wp2_with fail
        clear hc
        refine (mod_any tm 70 wr (by decide) (by decide)).mono ?_
        rintro e wm ⟨rfl, rfl⟩
        go_wp2_with fail
        generalize hgt : wr.heap.size = gt at *
        have hbx := one_new wr (.cells #[.int .i64 (modF tm 70), .int .i64 tm] 3)
        have HY : Hid ((wr.alloc (.cells #[.int .i64 (modF tm 70), .int .i64 tm] 3)).heap[gt]? = some (.cells #[.int .i64 (modF tm 70), .int .i64 tm] 3 (0, 0))) := Lib.hid (by rw [← hgt]; exact heap_alloc_new _ _)
        replace HX := Lib.hid ((hbx.block _ (Array.getElem?_eq_some_iff.1 HX.out).1).trans HX.out)
        replace HL := Lib.hid (HL.out.later hbx); replace HB := Lib.hid (HB.out.trans (hbx.mono HB.out.size))
        clear hbx hgt
        generalize wr.alloc (.cells #[.int .i64 (modF tm 70), .int .i64 tm] 3) = y5 at *
        go_loopw [42] (fun i wq => ∃ k : Nat, k ≤ 2 ∧ i = .int .i64 k ∧ Hid (LRow wq A n c l ∧ Below w.heap.size w wq ∧ wq.heap[gs]? = some (.cells #[.int .i64 1, .int .i64 2, .int .i64 3, .int .i64 lv] 3 (0, 0)) ∧ wq.heap[gt]? = some (.cells #[.int .i64 (modF tm 70), .int .i64 tm] 3 (0, 0)))) (fun i _ => 2 - (intOf i).toNat)
        case atStart => exact ⟨0, Nat.zero_le _, rfl, Lib.hid ⟨HL.out, HB.out, HX.out, HY.out⟩⟩
        case round =>
          clear HL HB HX HY
          obtain ⟨k, hk, rfl, HQ⟩ := hrel
          have HL := Lib.hid HQ.out.1; have HB := Lib.hid HQ.out.2.1; have HX := Lib.hid HQ.out.2.2.1
          by_cases hkl : k < 2
          · have hk2 : (k : Int) < 2 := by omega
            have hc : wr.cell? ⟨gt, k, none⟩ = some (.int .i64 ([modF tm 70, tm].getD k 0)) := (cell_of_row _ _ k _ _ _ HQ.out.2.2.2).trans (by rcases k with _ | _ | k <;> first | rfl | omega)
            have HY := Lib.hid HQ.out.2.2.2
            clear HQ
            generalize [modF tm 70, tm].getD k 0 = xs at *
            have HF := Lib.hid (HFW.out xs xv)
            have HP1 : Hid (∀ y, LRow y A n c l → Calls Tryz.prog 11 #[.slice A n c, .int .i64 xs, .int .i64 xv] y (GivesGE y (AT xs xv))) := Lib.hid (HP.out xs xv)
            have HP2 : Hid (∀ y, LRow y A n c l → Calls Tryz.prog 12 #[.slice A n c, .int .i64 xs, .int .i64 xv] y (GivesGE y (AT xs xv))) := Lib.hid (HQR.out xs xv)
            generalize AT xs xv = RW at *
            go_wp2_with fail
            clear hc
            refine (HP1.out wr HL.out).mono ?_
            rintro e a0 ⟨v0, rfl, hv, hb⟩
            have HV0 := Lib.hid hv
            obtain ⟨A0, n0, c0, B0, m0, k0, rfl, -, -⟩ := hv
            replace HX := Lib.hid ((hb.block _ (Array.getElem?_eq_some_iff.1 HX.out).1).trans HX.out)
            replace HY := Lib.hid ((hb.block _ (Array.getElem?_eq_some_iff.1 HY.out).1).trans HY.out)
            replace HL := Lib.hid (HL.out.later hb); replace HB := Lib.hid (HB.out.trans (hb.mono HB.out.size))
            clear hb
            go_upto_region 12 with (refine wpList_store_new rfl 35 (.tmp 13) (.tmp 51) rfl 35 _ #[.int .i64 RW.1.sz, .slice A0 n0 c0, .slice B0 m0 k0] rfl rfl gr_size rfl (by simp [Value.oneCell']) ?_)
            have hb := one_new a0 (.cells #[.int .i64 RW.1.sz, .slice A0 n0 c0, .slice B0 m0 k0] 35)
            have HC0 : Hid ((a0.alloc (.cells #[.int .i64 RW.1.sz, .slice A0 n0 c0, .slice B0 m0 k0] 35)).heap[a0.heap.size]? = some (.cells #[.int .i64 RW.1.sz, .slice A0 n0 c0, .slice B0 m0 k0] 35 (0, 0))) := Lib.hid (heap_alloc_new _ _)
            replace HX := Lib.hid ((hb.block _ (Array.getElem?_eq_some_iff.1 HX.out).1).trans HX.out)
            replace HY := Lib.hid ((hb.block _ (Array.getElem?_eq_some_iff.1 HY.out).1).trans HY.out)
            replace HV0 := Lib.hid (GHold.later HV0.out hb)
            replace HL := Lib.hid (HL.out.later hb); replace HB := Lib.hid (HB.out.trans (hb.mono HB.out.size))
            clear hb
            generalize a0.alloc (.cells #[.int .i64 RW.1.sz, .slice A0 n0 c0, .slice B0 m0 k0] 35) = b0 at *
            generalize a0.heap.size = g0 at *
            try dsimp only [Act.put]
            clear HP1
            go_wp2_with fail
            refine (HP2.out b0 HL.out).mono ?_
            rintro e a1 ⟨v1, rfl, hv, hb⟩
            have HV1 := Lib.hid hv
            obtain ⟨A1, n1, c1, B1, m1, k1, rfl, -, -⟩ := hv
            replace HX := Lib.hid ((hb.block _ (Array.getElem?_eq_some_iff.1 HX.out).1).trans HX.out)
            replace HY := Lib.hid ((hb.block _ (Array.getElem?_eq_some_iff.1 HY.out).1).trans HY.out)
            replace HC0 := Lib.hid ((hb.block _ (Array.getElem?_eq_some_iff.1 HC0.out).1).trans HC0.out)
            replace HV0 := Lib.hid (GHold.later HV0.out hb)
            replace HL := Lib.hid (HL.out.later hb); replace HB := Lib.hid (HB.out.trans (hb.mono HB.out.size))
            clear hb
            go_upto_region 13 with (refine wpList_store_new rfl 35 (.tmp 15) (.tmp 58) rfl 35 _ #[.int .i64 RW.1.sz, .slice A1 n1 c1, .slice B1 m1 k1] rfl rfl gr_size rfl (by simp [Value.oneCell']) ?_)
            have hb := one_new a1 (.cells #[.int .i64 RW.1.sz, .slice A1 n1 c1, .slice B1 m1 k1] 35)
            have HC1 : Hid ((a1.alloc (.cells #[.int .i64 RW.1.sz, .slice A1 n1 c1, .slice B1 m1 k1] 35)).heap[a1.heap.size]? = some (.cells #[.int .i64 RW.1.sz, .slice A1 n1 c1, .slice B1 m1 k1] 35 (0, 0))) := Lib.hid (heap_alloc_new _ _)
            replace HX := Lib.hid ((hb.block _ (Array.getElem?_eq_some_iff.1 HX.out).1).trans HX.out)
            replace HY := Lib.hid ((hb.block _ (Array.getElem?_eq_some_iff.1 HY.out).1).trans HY.out)
            replace HC0 := Lib.hid ((hb.block _ (Array.getElem?_eq_some_iff.1 HC0.out).1).trans HC0.out)
            replace HV0 := Lib.hid (GHold.later HV0.out hb)
            replace HV1 := Lib.hid (GHold.later HV1.out hb)
            replace HL := Lib.hid (HL.out.later hb); replace HB := Lib.hid (HB.out.trans (hb.mono HB.out.size))
            clear hb
            generalize a1.alloc (.cells #[.int .i64 RW.1.sz, .slice A1 n1 c1, .slice B1 m1 k1] 35) = b1 at *
            generalize a1.heap.size = g1 at *
            try dsimp only [Act.put]
            clear HP2
            go_wp2_with (first | (refine wpList_load_row rfl 35 (.tmp 13) rfl g0 rfl 35 #[.int .i64 RW.1.sz, .slice A0 n0 c0, .slice B0 m0 k0] (0, 0) _ HC0.out Tryz.underlying35 rfl gr_size ?_) | (refine wpList_load_row rfl 35 (.tmp 15) rfl g1 rfl 35 #[.int .i64 RW.1.sz, .slice A1 n1 c1, .slice B1 m1 k1] (0, 0) _ HC1.out Tryz.underlying35 rfl gr_size ?_))
            refine (same11_any RW.1 _ _ RW.2 b1 HV0.out HV1.out HF.out.1 HF.out.2).mono ?_
            rintro e b2 ⟨rfl, hb⟩
            replace HX := Lib.hid ((hb.block _ (Array.getElem?_eq_some_iff.1 HX.out).1).trans HX.out)
            replace HY := Lib.hid ((hb.block _ (Array.getElem?_eq_some_iff.1 HY.out).1).trans HY.out)
            replace HL := Lib.hid (HL.out.later hb); replace HB := Lib.hid (HB.out.trans (hb.mono HB.out.size))
            clear hb
            clear HV0 HV1 HC0 HC1 HF
            go_wp2_with fail
            exact ⟨⟨k + 1, by omega, by go_num, Lib.hid ⟨HL.out, HB.out, HX.out, HY.out⟩⟩, by simp [intOf]; omega⟩
          · have hk2 : ¬ (k : Int) < 2 := by omega
            clear HQ
            go_wp2_with fail
            exact ⟨⟨j + 1, by omega, by go_num, Lib.hid ⟨HL.out, HB.out, HX.out⟩⟩, by simp [intOf]; omega⟩
      · have hj2 : ¬ (j : Int) < 4 := by omega
        clear HQ
        have HF1 := Lib.hid (HFW.out (modF tm 70) 1); have HF3 := Lib.hid (HFW.out (modF tm 70) 3)
        have HP1 : Hid (∀ y, LRow y A n c l → Calls Tryz.prog 11 #[.slice A n c, .int .i64 (modF tm 70), .int .i64 1] y (GivesGE y (AT (modF tm 70) 1))) := Lib.hid (HP.out _ _)
        have HP3 : Hid (∀ y, LRow y A n c l → Calls Tryz.prog 11 #[.slice A n c, .int .i64 (modF tm 70), .int .i64 3] y (GivesGE y (AT (modF tm 70) 3))) := Lib.hid (HP.out _ _)
        generalize AT (modF tm 70) 1 = R1 at *
        generalize AT (modF tm 70) 3 = R3 at *
        go_wp2_with fail
        refine (mod_any tm 70 wr (by decide) (by decide)).mono ?_
        rintro e wm ⟨rfl, rfl⟩
        go_wp2_with fail
        refine (HP1.out wr HL.out).mono ?_
        rintro e a0 ⟨v0, rfl, hv, hb⟩
        have HV0 := Lib.hid hv
        obtain ⟨A0, n0, c0, B0, m0, k0, rfl, -, -⟩ := hv
        replace HL := Lib.hid (HL.out.later hb); replace HB := Lib.hid (HB.out.trans (hb.mono HB.out.size))
        clear hb
        go_upto_region 18 with (refine wpList_store_new rfl 35 (.tmp 17) (.tmp 73) rfl 35 _ #[.int .i64 R1.1.sz, .slice A0 n0 c0, .slice B0 m0 k0] rfl rfl gr_size rfl (by simp [Value.oneCell']) ?_)
        have hb := one_new a0 (.cells #[.int .i64 R1.1.sz, .slice A0 n0 c0, .slice B0 m0 k0] 35)
        have HC0 : Hid ((a0.alloc (.cells #[.int .i64 R1.1.sz, .slice A0 n0 c0, .slice B0 m0 k0] 35)).heap[a0.heap.size]? = some (.cells #[.int .i64 R1.1.sz, .slice A0 n0 c0, .slice B0 m0 k0] 35 (0, 0))) := Lib.hid (heap_alloc_new _ _)
        replace HV0 := Lib.hid (GHold.later HV0.out hb)
        replace HL := Lib.hid (HL.out.later hb); replace HB := Lib.hid (HB.out.trans (hb.mono HB.out.size))
        clear hb
        generalize a0.alloc (.cells #[.int .i64 R1.1.sz, .slice A0 n0 c0, .slice B0 m0 k0] 35) = b0 at *
        generalize a0.heap.size = g0 at *
        try dsimp only [Act.put]
        go_wp2_with fail
        refine (mod_any tm 70 b0 (by decide) (by decide)).mono ?_
        rintro e wm ⟨rfl, rfl⟩
        go_wp2_with fail
        refine (HP3.out b0 HL.out).mono ?_
        rintro e a1 ⟨v1, rfl, hv, hb⟩
        have HV1 := Lib.hid hv
        obtain ⟨A1, n1, c1, B1, m1, k1, rfl, -, -⟩ := hv
        replace HC0 := Lib.hid ((hb.block _ (Array.getElem?_eq_some_iff.1 HC0.out).1).trans HC0.out)
        replace HV0 := Lib.hid (GHold.later HV0.out hb)
        replace HL := Lib.hid (HL.out.later hb); replace HB := Lib.hid (HB.out.trans (hb.mono HB.out.size))
        clear hb
        go_upto_region 19 with (refine wpList_store_new rfl 35 (.tmp 19) (.tmp 80) rfl 35 _ #[.int .i64 R3.1.sz, .slice A1 n1 c1, .slice B1 m1 k1] rfl rfl gr_size rfl (by simp [Value.oneCell']) ?_)
        have hb := one_new a1 (.cells #[.int .i64 R3.1.sz, .slice A1 n1 c1, .slice B1 m1 k1] 35)
        have HC1 : Hid ((a1.alloc (.cells #[.int .i64 R3.1.sz, .slice A1 n1 c1, .slice B1 m1 k1] 35)).heap[a1.heap.size]? = some (.cells #[.int .i64 R3.1.sz, .slice A1 n1 c1, .slice B1 m1 k1] 35 (0, 0))) := Lib.hid (heap_alloc_new _ _)
        replace HC0 := Lib.hid ((hb.block _ (Array.getElem?_eq_some_iff.1 HC0.out).1).trans HC0.out)
        replace HV0 := Lib.hid (GHold.later HV0.out hb)
        replace HV1 := Lib.hid (GHold.later HV1.out hb)
        replace HL := Lib.hid (HL.out.later hb); replace HB := Lib.hid (HB.out.trans (hb.mono HB.out.size))
        clear hb
        generalize a1.alloc (.cells #[.int .i64 R3.1.sz, .slice A1 n1 c1, .slice B1 m1 k1] 35) = b1 at *
        generalize a1.heap.size = g1 at *
        try dsimp only [Act.put]
        refine wp_region_grow (by kernel_rfl) Later Later.refl (fun _ _ _ => Later.trans) [6, 7] [([], 0), ([1, 2, 4], 3), ([], 5)] (by kernel_rfl) (by kernel_rfl) (by kernel_rfl) ?_
        simp only [List.map_cons, List.map_nil, pick, List.getD_cons_zero, List.getD_cons_succ]
        have hb : Below b1.heap.size b1 b1.drew := (Below.refl _ _).drew
        replace HC0 := Lib.hid ((hb.block _ (Array.getElem?_eq_some_iff.1 HC0.out).1).trans HC0.out)
        replace HC1 := Lib.hid ((hb.block _ (Array.getElem?_eq_some_iff.1 HC1.out).1).trans HC1.out)
        replace HV0 := Lib.hid (GHold.later HV0.out hb)
        replace HV1 := Lib.hid (GHold.later HV1.out hb)
        replace HL := Lib.hid (HL.out.later hb); replace HB := Lib.hid (HB.out.trans (hb.mono HB.out.size))
        clear hb
        generalize b1.drew = z0 at *
        refine wpGrow_cons ?_
        refine wpQuiet_nil ?_
        go_wp2_with fail
        refine (HAW.out z0).mono ?_
        rintro e z1 ⟨rfl, hb⟩
        have HF : Hid (Later z0 z1) := Lib.hid hb
        replace HC0 := Lib.hid ((hb.block _ (Array.getElem?_eq_some_iff.1 HC0.out).1).trans HC0.out)
        replace HC1 := Lib.hid ((hb.block _ (Array.getElem?_eq_some_iff.1 HC1.out).1).trans HC1.out)
        replace HV0 := Lib.hid (GHold.later HV0.out hb)
        replace HV1 := Lib.hid (GHold.later HV1.out hb)
        replace HL := Lib.hid (HL.out.later hb); replace HB := Lib.hid (HB.out.trans (hb.mono HB.out.size))
        clear hb
        go_wp2_with fail
        refine pieceEnd_normal ⟨HF.out, ?_⟩
        clear HF
        have hl0 : ∀ x, (loadVar 35 ⟨g0, 0, none⟩).run Tryz.prog (fut Later z1 x) = .ok (.agg #[.int .i64 R1.1.sz, .slice A0 n0 c0, .slice B0 m0 k0]) (fut Later z1 x) := fun x => run_loadVar_row _ g0 35 35 #[.int .i64 R1.1.sz, .slice A0 n0 c0, .slice B0 m0 k0] (0, 0) _ (((fut_ok Later.refl z1 x).block _ (Array.getElem?_eq_some_iff.1 HC0.out).1).trans HC0.out) Tryz.underlying35 rfl gr_size
        have hl1 : ∀ x, (loadVar 35 ⟨g1, 0, none⟩).run Tryz.prog (fut Later z1 x) = .ok (.agg #[.int .i64 R3.1.sz, .slice A1 n1 c1, .slice B1 m1 k1]) (fut Later z1 x) := fun x => run_loadVar_row _ g1 35 35 #[.int .i64 R3.1.sz, .slice A1 n1 c1, .slice B1 m1 k1] (0, 0) _ (((fut_ok Later.refl z1 x).block _ (Array.getElem?_eq_some_iff.1 HC1.out).1).trans HC1.out) Tryz.underlying35 rfl gr_size
        refine wpGrow_cons ?_
        repeat (first | (refine wpQuiet_load rfl 35 (.tmp 17) rfl ⟨g0, 0, none⟩ rfl (.agg #[.int .i64 R1.1.sz, .slice A0 n0 c0, .slice B0 m0 k0]) (fun w' h => by obtain ⟨x, rfl⟩ := h; exact hl0 x) ?_; simp only [Act.put, List.setIfInBounds_toArray, List.set_cons_succ, List.set_cons_zero]) | (refine wpQuiet_load rfl 35 (.tmp 19) rfl ⟨g1, 0, none⟩ rfl (.agg #[.int .i64 R3.1.sz, .slice A1 n1 c1, .slice B1 m1 k1]) (fun w' h => by obtain ⟨x, rfl⟩ := h; exact hl1 x) ?_; simp only [Act.put, List.setIfInBounds_toArray, List.set_cons_succ, List.set_cons_zero]) | go_big_quiet_step (fail))
        refine wpQuiet_nil ?_
        clear hl0 hl1
        go_wp2_with fail
        refine (HLV.out z1 _ HV0.out).mono ?_
        rintro e z2 ⟨v2, rfl, hv2, hb⟩
        have HF : Hid (Later z1 z2) := Lib.hid hb
        have HV2 := Lib.hid hv2
        clear hv2 HC0 HC1 HV0
        replace HV1 := Lib.hid (GHold.later HV1.out hb)
        replace HL := Lib.hid (HL.out.later hb); replace HB := Lib.hid (HB.out.trans (hb.mono HB.out.size))
        clear hb
        obtain ⟨A2', n2', c2', B2', m2', k2', rfl, -, -⟩ := HV2.out
        go_wp2_with fail
        refine pieceEnd_normal ⟨HF.out, ?_⟩
        clear HF
        refine wpGrow_cons ?_
        refine wpQuiet_nil ?_
        go_wp2_with fail
        refine (refsame_self R3.1 _ _ z2 HV2.out HV1.out HF3.out.1 HF3.out.2).mono ?_
        rintro e z3 ⟨rfl, hb⟩
        have HF : Hid (Later z2 z3) := Lib.hid hb
        replace HB := Lib.hid (HB.out.trans (hb.mono HB.out.size))
        clear hb
        go_wp2_with fail
        refine pieceEnd_normal ⟨HF.out, ?_⟩
        clear HF
        refine wpGrow_nil ?_
        repeat (go_big_quiet_step (fail))
        refine wpQuiet_nil ?_
        go_wp2_with fail
        go_ret
        exact ⟨rfl, HB.out⟩
  · have gd : decide (tn ≤ 400) = false := decide_eq_false hn
    go_wp2_with fail
    clear gd
    refine (HAW.out w).mono ?_
    rintro e w1 ⟨rfl, hb⟩
    have HB := Lib.hid hb; clear hb
    go_wp2_with fail
    go_ret
    exact ⟨rfl, HB.out⟩
theorem gat2_any (H : GraphC ∧ AtC) (TA : Option Addr) (tn tc : Nat) (t : List Int) (tm lv : Int) (w : World) (ht : IRow w TA tn tc t) : Calls Tryz.prog 3 #[.slice TA tn tc, .int .i64 tm, .int .i64 lv] w (SaysL (.bool true) w) := gat_law H.1 H.2 TA tn tc t tm lv w ht
end Go.Proofs.YtnmpbjgccbnomaaGreat
/- What a law's arguments are as rows of cells; what is asked of them behind the call. Plain facts over any program. -/
namespace Go.Proofs.YtnmpbjgccbnomaaGreat
open Go.ChangeShapes Go.WideShapes Go.ChangeAt Go.RowKit
section
variable {H : Type} {enc : TypeId × Value → H} {P : Program} {W W' : World}
/-- A slice of numbers of one kind that came in. -/
theorem open_nums {t e : TypeId} {k : IntKind} (ht : P.underlying t = some (.slice e)) (he : P.underlying e = some (.int k)) (hc : P.cellsOf e = 1) {base : Nat} {v : Value} {d : DataW H} {p : List MemPlace}
    (hval : Value.okWide P W .any base t v) (h : DataW.Trod enc P W 0 (fun _ => true) true t v d p) :
    ∃ (A : Option Addr) (n c : Nat) (zs : List Int), v = .slice A n c ∧ zs.length = n ∧ Row W A n c 1 (zs.map (Value.int k)) ∧ c ≤ maxLen ∧ ∀ z ∈ zs, (Lit.int k z).wf = true := by
  obtain ⟨a1, len, cap, rfl⟩ := okWide_slice ht hval
  obtain ⟨fuel, hf⟩ := h
  rcases open_ints ht he hc hf with ⟨hcs, hx⟩ | ⟨a, len', cap', zs, hcs, _, hl, hm, hz, hx, hcell, hwz⟩
  · simp [Value.cells] at hcs
    obtain ⟨rfl, rfl, rfl⟩ := hcs
    exact ⟨none, 0, 0, [], rfl, rfl, Row.nilRow _ _, Nat.zero_le _, fun _ h => by cases h⟩
  · simp [Value.cells] at hcs
    obtain ⟨rfl, rfl, rfl⟩ := hcs
    simp only [if_true] at hz
    refine ⟨some a, len, cap, zs.take len, rfl, by rw [List.length_take]; omega, ⟨by simp; omega, hl, fun e => (by cases e), fun ad e h0 => ?_⟩, hm, fun z hz' => hwz z (List.mem_of_mem_take hz')⟩
    injection e with e; subst e
    obtain ⟨ab, ao, spot⟩ := a
    have hspot : spot = none := by simpa [Addr.add] using World.cell?_spot (hcell 0 (by omega))
    subst hspot
    refine ⟨ab, ao, rfl, fun i hi => ?_⟩
    rw [Nat.mul_one] at hi
    have := hcell i (by omega)
    rw [Addr.add_lit] at this
    rw [this, List.getElem?_map, List.getElem?_take, if_pos hi, List.getElem?_eq_getElem (by omega)]
    simp [show i < zs.length by omega]
theorem open_i64s {t e : TypeId} (ht : P.underlying t = some (.slice e)) (he : P.underlying e = some (.int .i64)) (hc : P.cellsOf e = 1) {base : Nat} {v : Value} {d : DataW H} {p : List MemPlace}
    (hval : Value.okWide P W .any base t v) (h : DataW.Trod enc P W 0 (fun _ => true) true t v d p) : ∃ (A : Option Addr) (n c : Nat) (l : List Int), v = .slice A n c ∧ Row W A n c 1 (intsV l) ∧ c ≤ maxLen ∧ ∀ z ∈ l, -9223372036854775808 ≤ z ∧ z ≤ 9223372036854775807 := by
  obtain ⟨A, n, c, zs, rfl, _, hr, hm, hw⟩ := open_nums ht he hc hval h
  exact ⟨A, n, c, zs, rfl, hr, hm, fun z hz => bounds_i64 (hw z hz)⟩
theorem trodAll_below (hl : laidOutB P = true) (hb : Below W.heap.size W W') : ∀ {ts : List TypeId} {vs : List Value} {ds : List (DataW H)} {ps : List MemPlace}, (ts.all fun t => P.readableRec t && decide (t < P.types.size)) = true →
    DataW.TrodAll enc P W 0 (fun _ => true) true ts vs ds ps → DataW.TrodAll enc P W' 0 (fun b => decide (b < W.heap.size)) true ts vs ds ps
  | [], [], [], _, _, h => h
  | t :: ts, v :: vs, d :: ds, ps, hB, h => by
    have hlt := DataW.TrodAll.lt h
    obtain ⟨a, b, h1, h2, e⟩ := h
    simp only [List.all_cons, Bool.and_eq_true, decide_eq_true_eq] at hB
    subst e
    exact ⟨a, b, Below.trod hl hB.1.1 hB.1.2 h1 hb (fun x hx => hlt x (List.mem_append_left _ hx)), trodAll_below hl hb (by simpa using hB.2) h2, rfl⟩
/-- Behind a law that answered true and left below the old heap all as it was. -/
theorem law_post {f : Func} {s : ChangeSpec} {tb : TypeId} (hl : laidOutB P = true) (hres : f.resultTypes = #[tb]) (htb : P.underlying tb = some .bool) (hts : (f.params.toList.all fun t => P.readableRec t && decide (t < P.types.size)) = true) (hv : s.vars = [])
    {args : Array Value} {ds gs : List (DataW H)} {before : List MemPlace} (hW : DataW.Whole enc P f.params.toList s.vars false W args.toList ds gs before) (hfn : s.fn H (ds ++ gs) = { results := [.lit (.bool true)], args := ds }) (hb : Below W.heap.size W W') :
    ∃ v, Ending.returned (.bool true) = Ending.returned v ∧ s.post enc P f false true false false W args v W' := by
  have hW' := hW
  obtain ⟨p, q, hA, hV, rfl, _, _⟩ := hW
  refine ⟨_, rfl, ds, gs, _, [], p, [], hW', ?_, ?_, ?_, hb.frame _, fun h => by cases h⟩
  · rw [hfn, hres]; exact trodAll_mk1 (shut_bool htb _)
  · rw [hfn]; exact trodAll_below hl hb hts hA
  · rw [hfn, hv]; exact rfl
end
end Go.Proofs.YtnmpbjgccbnomaaGreat
/-
  PROVED: for every input the law GraphAt returns true and leaves its arguments as they were. Conditions: none but the row's own.
-/
namespace Go.Proofs.YtnmpbjgccbnomaaGreat.graphAt
open Go.ChangeShapes Go.WideShapes Go.ChangeAt Go.RowKit
theorem own : ownKnob Tryz.prog.godebug = none := by kernel_rfl
theorem laidOut : laidOutB Tryz.prog = true := by kernel_rfl
theorem cellsI : Tryz.prog.cellsOf 3 = 1 := by kernel_rfl
set_option maxRecDepth 100000 in
theorem lifted (H11 : GraphC ∧ AtC) (os : Os) (started : os.Started) (H : Type) (enc : TypeId × Value → H) :
    ReturnsInHanded {} Tryz.checked os 3 .any (Rows.graphAtSpec.pre6 enc Tryz.prog Tryz.f3 Rows.graphAtRow.domain false) (Rows.graphAtSpec.post enc Tryz.prog Tryz.f3 false true false false) := by
  refine returnsInHanded_of_change (C := Tryz.checked) own started (by kernel_rfl) Tryz.func3
    (ChangeSpec.witness6 (enc := enc) (C := Tryz.checked) false ⟨#[], #[.slice none 0 0, .int .i64 0, .int .i64 0], []⟩ 8 (by kernel_rfl) (by kernel_rfl) (by kernel_rfl) (by kernel_rfl)) ?_
  intro W base args ds gs before hval hW _ _
  have hW' := hW
  obtain ⟨p, q, hA, hV, rfl, _, _⟩ := hW
  rw [Tryz.params3] at hA hval
  obtain ⟨v0, v1, v2, d0, d1, d2, p0, p1, p2, rfl, rfl, rfl, h0, h1, h2⟩ := trodAll_three hA
  obtain ⟨rfl, rfl⟩ := trodVars_none hV
  obtain ⟨A, n, c, l, rfl, hr, _⟩ := open_i64s Tryz.underlying22 Tryz.underlying3 cellsI (hval 0 22 v0 rfl rfl) h0
  obtain ⟨a1, rfl, rfl, rfl, w1⟩ := open_int Tryz.underlying3 (hval 1 3 v1 rfl rfl) h1
  obtain ⟨a2, rfl, rfl, rfl, w2⟩ := open_int Tryz.underlying3 (hval 2 3 v2 rfl rfl) h2
  refine (gat2_any H11 A n c l a1 a2 W hr).mono fun e W' ⟨he, hb⟩ => ?_
  subst he
  exact law_post laidOut (by kernel_rfl) Tryz.underlying4 (by kernel_rfl) rfl hW' rfl hb
theorem over (H11 : GraphC ∧ AtC) : Rows.GraphAtSaid :=
  OpenClaim.holds_of_wide 3 Tryz.f3 rfl rfl rfl rfl rfl rfl rfl ⟨rfl, rfl, rfl, rfl, rfl⟩ rfl rfl rfl rfl rfl (by kernel_rfl) Tryz.func3 (by kernel_rfl)
    (of_decide_eq_true (by kernel_rfl)) (by unfold Func.isWrapper; first | (rw [if_pos (by decide +kernel)]; kernel_rfl) | (rw [if_neg (by decide +kernel)]; exact ⟨rfl, rfl⟩))
    (fun os started H enc _ => lifted H11 os started H enc)
end Go.Proofs.YtnmpbjgccbnomaaGreat.graphAt
