import Derived.Test.YtjmapbaofpilaaaPackAY
import Derived.Test.YtjmapbaofpilaaaPackAU
import Derived.Test.YtjmapbaofpilaaaPackAV
import Derived.Test.YtjmapbaofpilaaaPackAX
import Derived.Test.YtjmapbaofpilaaaPackAZ
/- The walk of the law VouchOnce, over any program that gives what layer 10 asks. -/
namespace Go.Proofs.Ytjmapbaofpilaaa
open Go.RowKit
theorem until_len10 (tm : Int) (S : List Stm) : (untilS tm S).length ≤ S.length := List.length_filter_le _ _
/-- What is active has begun, has not ended, was not revoked, and nobody of it has left. -/
theorem active_says {S : List Stm} (h : Ord10 S) (tm : Int) (i : Nat) (hi : i < (activeS S tm).length) : ((activeS S tm).getD i noVou).tm ≤ tm ∧ tm < ((activeS S tm).getD i noVou).en ∧ (((activeS S tm).getD i noVou).rv = -1 ∨ tm < ((activeS S tm).getD i noVou).rv) ∧
    hasI (goneS S tm) ((activeS S tm).getD i noVou).fr = false ∧ hasI (goneS S tm) ((activeS S tm).getD i noVou).tu = false := by
  obtain ⟨s, hs, he⟩ := (active_mem h tm _).1 (getV_mem hi)
  rw [he]
  exact ⟨hs.time, hs.ends, (revoked_by h s tm).2 hs.rev, hs.here, hs.there⟩
theorem keys_at {l m : List Vou} (h : l.map keyOf = m.map keyOf) (i : Nat) (hi : i < l.length) : (l.getD i noVou).fr = (m.getD i noVou).fr ∧ (l.getD i noVou).tu = (m.getD i noVou).tu ∧ (l.getD i noVou).nu = (m.getD i noVou).nu := by
  have hl : l.length = m.length := by have := congrArg List.length h; rwa [List.length_map, List.length_map] at this
  have h1 : (l.map keyOf)[i]? = (m.map keyOf)[i]? := by rw [h]
  rw [List.getElem?_map, List.getElem?_map, List.getElem?_eq_getElem hi, List.getElem?_eq_getElem (by omega)] at h1
  rw [getDV hi, getDV (by omega : i < m.length)]
  simp only [Option.map_some, Option.some.injEq] at h1
  unfold keyOf at h1
  injection h1 with e1 h2
  injection h2 with e2 e3
  exact ⟨e1, e2, e3⟩
theorem ints_at {l : List Int} {k : Nat} (h : k < l.length) : l.getD k 0 ∈ l := by
  rw [List.getD_eq_getElem?_getD, List.getElem?_eq_getElem h]; exact List.getElem_mem _
set_option maxRecDepth 100000 in
set_option maxHeartbeats 4000000 in
theorem vonce_any (H : VouchC) (TA : Option Addr) (tn tc : Nat) (t : List Int) (tm : Int) (w : World) (ht : IRow w TA tn tc t) :
    Calls Try.prog 4 #[.slice TA tn tc, .int .i64 tm] w (SaysL (.bool true) w) := by
  have HAW : Hid (∀ y, Calls Try.prog 7 #[] y (SaysL (.bool true) y)) := Lib.hid fun y => awake10_any H y
  have HT := Lib.hid ht; clear ht
  go_enter Try.func4, Try.ntmps4
  go_wp2_with fail
  refine (light_any TA tn tc w).mono ?_
  rintro e w0 ⟨rfl, rfl⟩
  by_cases hn : tn ≤ 400
  · have gd : decide (tn ≤ 400) = true := decide_eq_true hn
    go_wp2_with fail
    clear gd
    refine (roll_any w.heap.size TA tn tc t w HT.out (by omega) (Nat.le_refl _) (fun ad e h0 => Row.lt HT.out (by decide) ad e h0)).mono ?_
    rintro e w1 ⟨rfl, hd, hb⟩
    obtain ⟨D, hD⟩ : ∃ D, D = w.heap.size := ⟨_, rfl⟩
    have HD : Hid (∃ k, DiceAt w1 w.heap.size D t k) := Lib.hid ⟨0, by rw [hD]; exact hd⟩
    have HB := Lib.hid hb
    have HDD : Hid (w.heap.size = D) := Lib.hid hD.symm
    rw [← hD]
    clear hd hb hD HT
    go_wp2_with fail
    refine (dstore_g w.heap.size D t 6 w1 HD.out (by omega)).mono ?_
    rintro e w2 ⟨A2, c2, l2, rfl, hr2, hs2, hl2, hg⟩
    have HB2 := Lib.hid (HB.out.trans (hg.2.below (by have := HDD.out; omega) HB.out.size))
    have HR2 := Lib.hid hr2; have HS2 := Lib.hid hs2
    clear hr2 hs2 hg HB HD HDD
    go_wp2_with fail
    refine (countedAll_hi A2 l2.length c2 l2 w2 HR2.out (by omega) HS2.out).mono ?_
    rintro e w4 ⟨v, l, rfl, hm, ho, hhi, hb⟩
    obtain ⟨A, c, hv, hr⟩ := ho.row
    subst hv
    have HL := Lib.hid hr
    have HB := Lib.hid (HB2.out.trans (hb.mono HB2.out.size))
    obtain ⟨S, hS⟩ : ∃ S, l.map (·.s) = S := ⟨_, rfl⟩
    have HSE := Lib.hid hS
    have HO : Hid (Ord10 S) := Lib.hid (by rw [← hS, hm]; exact ord10_counted _)
    have HSL : Hid (S.length = l.length) := Lib.hid (by rw [← HSE.out, List.length_map])
    have hln : l.length ≤ 100000 := by
      have h1 := countedUp_len (l2.map (·.s)) 64
      rw [List.length_map] at h1
      have h2 := congrArg List.length hm
      rw [List.length_map] at h2
      have h3 : (countedAll (l2.map (·.s))).length = (countedUp (l2.map (·.s)) 64).length := rfl
      omega
    clear hm ho hhi hb hr hS HR2 HS2 HB2 hl2
    go_wp2_with fail
    refine (mod_any tm 80 w4 (by omega) (by omega)).mono ?_
    rintro e w5 ⟨rfl, rfl⟩
    have hx := modF_bd tm 80 (by omega)
    generalize modF tm 80 = x at *
    have hx0 := hx.1; have hx1 := hx.2
    clear hx
    go_wp2_with fail
    refine (H.active A l.length c l x w4 HL.out hln (by rw [HSE.out]; exact HO.out)).mono ?_
    rw [HSE.out]
    rintro e w6 ⟨VA, vn, vc, rfl, hv, hb⟩
    obtain ⟨V, hV⟩ : ∃ V, activeS S x = V := ⟨_, rfl⟩
    have HVE := Lib.hid hV
    rw [hV] at hv
    have HV := Lib.hid hv; have HVN := Lib.hid hv.len
    have HL6 := Lib.hid (HL.out.later hb); have HB6 := Lib.hid (HB.out.trans (hb.mono HB.out.size))
    have hvn : vn ≤ 100000 := by have h1 := activeS_len S x; rw [hV] at h1; have := HSL.out; have := HVN.out; omega
    clear hv hb hV HL HB
    go_wp2_with fail
    refine (H.gone A l.length c l x w6 HL6.out hln (by rw [HSE.out]; exact HO.out)).mono ?_
    rw [HSE.out]
    rintro e w7 ⟨GA, gn, gc, rfl, hg, hb⟩
    have HG1 : Hid ((goneS S x).length ≤ 64) := Lib.hid (goneUp_len _ _ 64)
    obtain ⟨G, hG⟩ : ∃ G, goneS S x = G := ⟨_, rfl⟩
    have HGE := Lib.hid hG
    rw [hG] at hg HG1
    have HG := Lib.hid hg; have HGN := Lib.hid hg.len
    have hgn : gn ≤ 64 := by have := HG1.out; have := HGN.out; omega
    have HL := Lib.hid (HL6.out.later hb); have HB := Lib.hid (HB6.out.trans (hb.mono HB6.out.size))
    replace HV := Lib.hid (GRow.later HV.out hb)
    clear hg hb hG HL6 HB6 HG1
    -- what is known of each
    have HF : Hid (∀ i, i < vn → (V.getD i noVou).tm ≤ x ∧ x < (V.getD i noVou).en ∧ ((V.getD i noVou).rv = -1 ∨ x < (V.getD i noVou).rv) ∧ hasI G (V.getD i noVou).fr = false ∧ hasI G (V.getD i noVou).tu = false) := Lib.hid fun i hi => by
      have h := active_says HO.out x i (by rw [HVE.out, HVN.out]; exact hi)
      rw [HVE.out, HGE.out] at h
      exact h
    have HF1 : Hid (∀ i, 0 < i → i < vn → ¬ ((V.getD (i - 1) noVou).fr = (V.getD i noVou).fr ∧ (V.getD (i - 1) noVou).tu = (V.getD i noVou).tu)) := Lib.hid fun i h0 hi => by
      have h := active_one HO.out x i h0 (by rw [HVE.out, HVN.out]; exact hi)
      rw [HVE.out] at h
      exact h
    go_wp2_with fail
    go_loopg [10] vn (fun gk vi wr => ∃ i : Nat, vi = .int .i64 i ∧ i ≤ vn ∧ vn - i ≤ gk ∧ Hid (Below w7.heap.size w7 wr))
    case atStart => exact ⟨0, rfl, Nat.zero_le _, by omega, Lib.hid (Below.refl _ _)⟩
    case round =>
      obtain ⟨i, rfl, hi, hgk, HQ⟩ := hrel
      by_cases hlt : i < vn
      · have hlt2 : (i : Int) < (vn : Int) := by omega
        have HVR := Lib.hid (GRow.later HV.out HQ.out)
        obtain ⟨b, off, hA, hc⟩ := GRow.cells Vou.len (by decide) HVR.out noVou i hlt
        subst hA
        have HP := Lib.hid (HF.out i hlt); have HP1 := Lib.hid (HF1.out i)
        obtain ⟨p, hp⟩ : ∃ p, V.getD i noVou = p := ⟨_, rfl⟩
        rw [hp] at HP HP1 hc
        have HC : Hid (∀ k, k < p.arr.size → wr.cell? ⟨b, off + i * 7 + k, none⟩ = p.arr[k]?) := Lib.hid fun k hk => (hc k hk).trans (by rw [← Vou.list, Array.getElem?_toList])
        clear hc hp
        go_upto_region 12 with (first | (refine wpList_load_cells rfl 49 (.tmp 42) rfl b (off + i * 7) rfl p.arr _ Try.underlying49 rfl p.info HC.out ?_) | (refine wpList_store_new rfl 49 (.tmp 11) (.tmp 43) rfl 49 _ p.arr rfl rfl p.info rfl p.one ?_))
        have HN := Lib.hid (one_new wr (.cells p.arr 49))
        have HX : Hid ((wr.alloc (.cells p.arr 49)).heap[wr.heap.size]? = some (.cells p.arr 49 (0, 0))) := Lib.hid (heap_alloc_new _ _)
        have HB1 := Lib.hid (HQ.out.trans (HN.out.mono HQ.out.size))
        have HVR2 := Lib.hid (GRow.later HVR.out HN.out)
        clear HN HC HVR HQ
        generalize wr.alloc (.cells p.arr 49) = x2 at *
        generalize wr.heap.size = g at *
        simp only [Act.put]
        go_cut [90] (fun v90 wx => v90 = .bool false ∧ Hid (Below x2.heap.size x2 wx))
        case first =>
          refine wp_region_grow (by kernel_rfl) Later Later.refl (fun _ _ _ => Later.trans) [0, 1, 2, 3, 4, 5, 6, 7, 8, 9, 10, 11, 12, 13, 14, 15, 16, 17, 18, 19, 20, 21, 22, 23, 24, 25, 26, 27, 28, 29, 30, 31, 32, 33, 34, 35, 36, 37, 38, 39, 40, 41, 42, 43, 44, 45, 46] [] (by kernel_rfl) (by kernel_rfl) (by kernel_rfl) ?_
          simp only [List.map_cons, List.map_nil, pick, List.getD_cons_zero, List.getD_cons_succ]
          have HU : Hid (Below x2.heap.size x2 x2.drew) := Lib.hid (Below.refl _ _).drew
          have HX0 : Hid (x2.drew.heap[g]? = some (.cells p.arr 49 (0, 0))) := Lib.hid HX.out
          have HVX : Hid (VRow x2.drew (some ⟨b, off, none⟩) vn vc V) := Lib.hid (GRow.later HVR2.out HU.out)
          generalize x2.drew = z0 at *
          have hgs : g < z0.heap.size := (Array.getElem?_eq_some_iff.1 HX0.out).1
          have hbx := fun x k => box_futs (F := Later) Later.refl (W := z0) (fun _ h => h.block _ hgs) HX0.out x k
          have hp0 : ∀ y, (fut Later z0 y).cell? ⟨g, 0, none⟩ = some (.int .i64 p.fr) := fun y => by have h := hbx y 0; rw [Nat.zero_add] at h; exact h
          have hp1 : ∀ y, (fut Later z0 y).cell? ⟨g, 1, none⟩ = some (.int .i64 p.tu) := fun y => by have h := hbx y 1; rw [Nat.zero_add] at h; exact h
          have hp4 : ∀ y, (fut Later z0 y).cell? ⟨g, 4, none⟩ = some (.int .i64 p.tm) := fun y => by have h := hbx y 4; rw [Nat.zero_add] at h; exact h
          have hp5 : ∀ y, (fut Later z0 y).cell? ⟨g, 5, none⟩ = some (.int .i64 p.en) := fun y => by have h := hbx y 5; rw [Nat.zero_add] at h; exact h
          have hp6 : ∀ y, (fut Later z0 y).cell? ⟨g, 6, none⟩ = some (.int .i64 p.rv) := fun y => by have h := hbx y 6; rw [Nat.zero_add] at h; exact h
          clear hbx
          have b0 : decide (p.tm > x) = false := decide_eq_false (by have := HP.out.1; omega)
          have b0' : decide (x < p.tm) = false := b0
          have b1 : decide (p.en ≤ x) = false := decide_eq_false (by have := HP.out.2.1; omega)
          have HRV := Lib.hid HP.out.2.2.1
          clear hgs
          by_cases hrv : 0 ≤ p.rv
          · have b2 : decide (p.rv ≥ 0) = true := decide_eq_true hrv
            have b2' : decide (0 ≤ p.rv) = true := b2
            have b3 : decide (p.rv ≤ x) = false := decide_eq_false (by have := HRV.out; omega)
            clear hrv
            by_cases hi0 : i = 0
            · have c0 : decide ((i : Int) > 0) = false := decide_eq_false (by omega)
              have c0' : decide ((0 : Int) < (i : Int)) = false := c0
              clear hlt2
              refine wpGrow_nil ?_
              repeat (go_big_quiet_step (fail))
              refine wpQuiet_nil ?_
              clear hp0 hp1 hp4 hp5 hp6
              go_wp2_with fail
              go_meet
              exact ⟨rfl, HU⟩
            · obtain ⟨ip, rfl⟩ : ∃ ip, i = ip + 1 := ⟨i - 1, by omega⟩
              have c0 : decide (((ip : Int) + 1) > 0) = true := decide_eq_true (by omega)
              have c0' : decide ((0 : Int) < (ip : Int) + 1) = true := c0
              have k1 : IntKind.i64.wrap (ip : Int) = (ip : Int) := by rw [IntKind.wrap_i64]; omega
              have k2 : (ip : Int) < (vn : Int) := by omega
              have HP2 := Lib.hid (HP1.out (by omega) hlt)
              rw [Nat.add_sub_cancel] at HP2
              obtain ⟨b2, off2, hA2, hf⟩ := GRow.futs (F := Later) Later.refl Vou.len (by decide) (fun _ h => h) HVX.out noVou ip (by omega)
              injection hA2 with hA2
              injection hA2 with h1 h2
              subst h1 h2
              obtain ⟨q, hq⟩ : ∃ q, V.getD ip noVou = q := ⟨_, rfl⟩
              rw [hq] at hf HP2
              have hf0 : ∀ y, (fut Later z0 y).cell? ⟨b, off + ip * 7, none⟩ = some (.int .i64 q.fr) := fun y => hf y 0 (by decide)
              have hf1 : ∀ y, (fut Later z0 y).cell? ⟨b, off + ip * 7 + 1, none⟩ = some (.int .i64 q.tu) := fun y => hf y 1 (by decide)
              clear hf hq
              by_cases e0 : q.fr = p.fr
              · have d0 : (q.fr == p.fr) = true := by rw [e0]; simp
                have d1 : (q.tu == p.tu) = false := by
                  have h := HP2.out
                  simp only [beq_eq_false_iff_ne, ne_eq]
                  exact fun e => h ⟨e0, e⟩
                clear e0
                refine wpGrow_nil ?_
                repeat (go_big_quiet_step (fail))
                refine wpQuiet_nil ?_
                clear hp0 hp1 hp4 hp5 hp6 hf0 hf1
                go_wp2_with fail
                go_meet
                exact ⟨rfl, HU⟩
              · have d0 : (q.fr == p.fr) = false := by simpa using e0
                clear e0
                refine wpGrow_nil ?_
                repeat (go_big_quiet_step (fail))
                refine wpQuiet_nil ?_
                clear hp0 hp1 hp4 hp5 hp6 hf0 hf1
                go_wp2_with fail
                go_meet
                exact ⟨rfl, HU⟩
          · have b2 : decide (p.rv ≥ 0) = false := decide_eq_false (by omega)
            have b2' : decide (0 ≤ p.rv) = false := b2
            clear hrv
            by_cases hi0 : i = 0
            · have c0 : decide ((i : Int) > 0) = false := decide_eq_false (by omega)
              have c0' : decide ((0 : Int) < (i : Int)) = false := c0
              clear hlt2
              refine wpGrow_nil ?_
              repeat (go_big_quiet_step (fail))
              refine wpQuiet_nil ?_
              clear hp0 hp1 hp4 hp5 hp6
              go_wp2_with fail
              go_meet
              exact ⟨rfl, HU⟩
            · obtain ⟨ip, rfl⟩ : ∃ ip, i = ip + 1 := ⟨i - 1, by omega⟩
              have c0 : decide (((ip : Int) + 1) > 0) = true := decide_eq_true (by omega)
              have c0' : decide ((0 : Int) < (ip : Int) + 1) = true := c0
              have k1 : IntKind.i64.wrap (ip : Int) = (ip : Int) := by rw [IntKind.wrap_i64]; omega
              have k2 : (ip : Int) < (vn : Int) := by omega
              have HP2 := Lib.hid (HP1.out (by omega) hlt)
              rw [Nat.add_sub_cancel] at HP2
              obtain ⟨b2, off2, hA2, hf⟩ := GRow.futs (F := Later) Later.refl Vou.len (by decide) (fun _ h => h) HVX.out noVou ip (by omega)
              injection hA2 with hA2
              injection hA2 with h1 h2
              subst h1 h2
              obtain ⟨q, hq⟩ : ∃ q, V.getD ip noVou = q := ⟨_, rfl⟩
              rw [hq] at hf HP2
              have hf0 : ∀ y, (fut Later z0 y).cell? ⟨b, off + ip * 7, none⟩ = some (.int .i64 q.fr) := fun y => hf y 0 (by decide)
              have hf1 : ∀ y, (fut Later z0 y).cell? ⟨b, off + ip * 7 + 1, none⟩ = some (.int .i64 q.tu) := fun y => hf y 1 (by decide)
              clear hf hq
              by_cases e0 : q.fr = p.fr
              · have d0 : (q.fr == p.fr) = true := by rw [e0]; simp
                have d1 : (q.tu == p.tu) = false := by
                  have h := HP2.out
                  simp only [beq_eq_false_iff_ne, ne_eq]
                  exact fun e => h ⟨e0, e⟩
                clear e0
                refine wpGrow_nil ?_
                repeat (go_big_quiet_step (fail))
                refine wpQuiet_nil ?_
                clear hp0 hp1 hp4 hp5 hp6 hf0 hf1
                go_wp2_with fail
                go_meet
                exact ⟨rfl, HU⟩
              · have d0 : (q.fr == p.fr) = false := by simpa using e0
                clear e0
                refine wpGrow_nil ?_
                repeat (go_big_quiet_step (fail))
                refine wpQuiet_nil ?_
                clear hp0 hp1 hp4 hp5 hp6 hf0 hf1
                go_wp2_with fail
                go_meet
                exact ⟨rfl, HU⟩
        case rest =>
          obtain ⟨rfl, HW⟩ := hcut
          have HXC : Hid (wc.heap[g]? = some (.cells p.arr 49 (0, 0))) := Lib.hid ((HW.out.block _ (Array.getElem?_eq_some_iff.1 HX.out).1).trans HX.out)
          have HBC := Lib.hid (HB1.out.trans (HW.out.mono HB1.out.size))
          have HGR := Lib.hid (Row.later HG.out HBC.out)
          have HNE : Hid (∀ k, k < gn → G.getD k 0 ≠ p.fr ∧ G.getD k 0 ≠ p.tu) := Lib.hid fun k hk => ⟨hasI_false HP.out.2.2.2.1 _ (ints_at (by rw [HGN.out]; exact hk)), hasI_false HP.out.2.2.2.2 _ (ints_at (by rw [HGN.out]; exact hk))⟩
          clear HW HX HB1 HP HP1 HVR2
          go_wp2_with fail
          go_loopg [12] gn (fun gk2 vk wr => ∃ k : Nat, vk = .int .i64 k ∧ k ≤ gn ∧ gn - k ≤ gk2 ∧ Hid (Below wc.heap.size wc wr))
          case atStart => exact ⟨0, rfl, Nat.zero_le _, by omega, Lib.hid (Below.refl _ _)⟩
          case round =>
            obtain ⟨k, rfl, hk, hgk2, HQ2⟩ := hrel
            by_cases hkl : k < gn
            · have hkl2 : (k : Int) < (gn : Int) := by omega
              have hkn : k ≤ 64 := by omega
              obtain ⟨b3, off3, hA3, hgc⟩ := IRow.cell (Row.later HGR.out HQ2.out) k hkl
              have HGA := Lib.hid hA3
              have HN3 := Lib.hid (HNE.out k hkl)
              generalize G.getD k 0 = gv at hgc HN3
              have d0 : (gv == p.fr) = false := by rw [beq_eq_false_iff_ne]; exact HN3.out.1
              have d1 : (gv == p.tu) = false := by rw [beq_eq_false_iff_ne]; exact HN3.out.2
              have hxw : wr.heap[g]? = some (.cells p.arr 49 (0, 0)) := (HQ2.out.block _ (Array.getElem?_eq_some_iff.1 HXC.out).1).trans HXC.out
              have hp0 : wr.cell? ⟨g, 0, none⟩ = some (.int .i64 p.fr) := (cell_of_row _ _ 0 _ _ _ hxw).trans rfl
              have hp1 : wr.cell? ⟨g, 1, none⟩ = some (.int .i64 p.tu) := (cell_of_row _ _ 1 _ _ _ hxw).trans rfl
              subst hA3
              clear hxw HGA
              go_wp2_with fail
              go_quiet (fail)
              clear hp0 hp1 hgc d0 d1
              go_wp2_with fail
              go_roundg (gn - (k + 1))
              case measure => omega
              case rel => exact ⟨k + 1, by go_num, by omega, Nat.le_refl _, Lib.hid (below_nq HQ2.out nq)⟩
            · have hkl2 : ¬ (k : Int) < (gn : Int) := by omega
              go_wp2_with fail
              go_roundg (vn - (i + 1))
              case measure => omega
              case rel => exact ⟨i + 1, by go_num, by omega, Nat.le_refl _, Lib.hid (HBC.out.trans (HQ2.out.mono HBC.out.size))⟩
      · have hlt2 : ¬ (i : Int) < (vn : Int) := by omega
        go_wp2_with fail
        clear hgk hlt hlt2
        have HL8 := Lib.hid (HL.out.later HQ.out); have HB8 := Lib.hid (HB.out.trans (HQ.out.mono HB.out.size)); have HV8 := Lib.hid (GRow.later HV.out HQ.out)
        clear HQ HG HL HB HV hi
        rename World => w8
        go_loopg [13, 14] l.length (fun gk v vi wr => ∃ (j : Nat) (l' : List Pl), vi = .int .i64 j ∧ j ≤ l.length ∧ l.length - j ≤ gk ∧ Hid (LOwn wr w8.heap.size v l' ∧ l'.map (·.s) = untilS x ((l.take j).map (·.s)) ∧ Below w8.heap.size w8 wr))
        case atStart => exact ⟨0, [], rfl, Nat.zero_le _, by omega, Lib.hid ⟨LOwn.nil _ _, rfl, Below.refl _ _⟩⟩
        case round =>
          obtain ⟨j, l', rfl, hj, hgk, HQ⟩ := hrel
          obtain ⟨A1, c1, hv1, -⟩ := HQ.out.1.row
          subst hv1
          by_cases hlt : j < l.length
          · have hlt2 : (j : Int) < (l.length : Int) := by omega
            have HLJ := Lib.hid (HL8.out.later HQ.out.2.2)
            obtain ⟨b, off, hA, hc⟩ := HLJ.out.cells j hlt
            have HOK := Lib.hid (HLJ.out.at j hlt)
            have HT : Hid (untilS x ((l.take (j + 1)).map (·.s)) = untilS x ((l.take j).map (·.s)) ++ untilS x [(l.getD j noPl).s]) := Lib.hid (by rw [take_snocP l j hlt, List.map_append]; exact List.filter_append _ _)
            have HCL : Hid (Clear (.slice A1 l'.length c1) (l.getD j noPl)) := Lib.hid (HL8.out.clear (Nat.le_refl _) (fun k e => own_ge HQ.out.1.own k e) _ (HL8.out.get j hlt))
            subst hA
            have HLE : Hid (l'.length ≤ l.length) := Lib.hid (by have h := congrArg List.length HQ.out.2.1; have h2 := until_len10 x ((l.take j).map (·.s)); simp only [List.length_map, List.length_take] at h h2; omega)
            have HC := Lib.hid hc
            have hck : wr.cell? ⟨b, off + j * 13 + 3, none⟩ = some (.int .i64 (l.getD j noPl).s.time) := hc 3 (by rw [Pl.size]; decide)
            clear hc HLJ
            generalize l.getD j noPl = q at *
            by_cases hb : q.s.time ≤ x
            · have b0 : decide (q.s.time ≤ x) = true := decide_eq_true hb
              have HT2 : Hid (untilS x ((l.take (j + 1)).map (·.s)) = untilS x ((l.take j).map (·.s)) ++ [q.s]) := Lib.hid (by rw [HT.out, show untilS x [q.s] = [q.s] by unfold untilS; rw [List.filter_cons_of_pos (by exact b0), List.filter_nil]])
              have hle := HLE.out
              have hvs : q.arr.size = 13 := rfl
              clear HT
              go_wp2_with (first | (refine wpList_load_cells rfl 34 (.tmp 129) rfl b (off + j * 13) rfl q.arr _ Try.underlying34 rfl q.info HC.out ?_) | (at_builtin; (first | rw [fold13] | (rw [← hvs, fold13])); go_must (refine wpList_app_newK wr rfl (.tmp 126) (.tmp 131) 27 34 rfl w8.heap.size Try.underlying27 stm_info rfl _ l'.length (plsC l') HQ.out.1.own rfl 1 q.arr rfl q.ones rfl rfl (by unfold maxLen; omega) (by omega) HQ.out.2.2.size ?_); intro x3 z3 ho hb3 hk1 hk2; rw [show q.arr.toList = plsC [q] from rfl] at ho; have HO3 := Lib.hid (HQ.out.1.app (m := [q]) (fun r hr => by rw [List.mem_singleton.1 hr]; exact ⟨HOK.out, HCL.out⟩) ho hk1 hk2); have HB3 := Lib.hid (HQ.out.2.2.trans hb3); clear ho hb3 hk1 hk2))
              go_roundg (l.length - (j + 1))
              case measure => omega
              case rel => exact ⟨j + 1, l' ++ [q], by go_num, by omega, Nat.le_refl _, Lib.hid ⟨HO3.out, by rw [List.map_append, HQ.out.2.1, HT2.out, List.map_cons, List.map_nil], HB3.out⟩⟩
            · have b0 : decide (q.s.time ≤ x) = false := decide_eq_false hb
              have HT2 : Hid (untilS x ((l.take (j + 1)).map (·.s)) = untilS x ((l.take j).map (·.s))) := Lib.hid (by rw [HT.out, show untilS x [q.s] = [] by unfold untilS; rw [List.filter_cons_of_neg (by rw [b0]; decide), List.filter_nil], List.append_nil])
              clear HT hb
              go_wp2_with fail
              go_roundg (l.length - (j + 1))
              case measure => omega
              case rel => exact ⟨j + 1, l', by go_num, by omega, Nat.le_refl _, Lib.hid ⟨HQ.out.1, by rw [HQ.out.2.1, HT2.out], HQ.out.2.2⟩⟩
          · have hlt2 : ¬ (j : Int) < (l.length : Int) := by omega
            have HE9 : Hid (l'.map (·.s) = untilS x S) := Lib.hid (by rw [HQ.out.2.1, show l.take j = l from List.take_of_length_le (by omega), HSE.out])
            have HRW : Hid (LRow wr A1 l'.length c1 l') := Lib.hid (by obtain ⟨A3, c3, hv3, hr3⟩ := HQ.out.1.row; injection hv3 with h1 _ h3; subst h1 h3; exact hr3)
            have hl9 : l'.length ≤ 100000 := by have h := congrArg List.length HE9.out; have h2 := until_len10 x S; rw [List.length_map] at h; have := HSL.out; omega
            have HB9 := Lib.hid (HB8.out.trans (HQ.out.2.2.mono HB8.out.size)); have HV9 := Lib.hid (GRow.later HV8.out HQ.out.2.2)
            clear HQ HB8 HV8 HL8 hgk hj
            go_wp2_with fail
            clear hlt hlt2
            refine (H.active A1 l'.length c1 l' x wr HRW.out hl9 (by rw [HE9.out]; exact HO.out.until x)).mono ?_
            rw [HE9.out]
            rintro e wa ⟨VA2, vn2, vc2, rfl, hv2, hb2⟩
            have HKY := active_until HO.out x
            obtain ⟨V2, hV2⟩ : ∃ V2, activeS (untilS x S) x = V2 := ⟨_, rfl⟩
            rw [hV2] at hv2 HKY
            rw [HVE.out] at HKY
            have HK := Lib.hid HKY
            have hvv : vn2 = vn := by
              have h := congrArg List.length HKY
              rw [List.length_map, List.length_map] at h
              have h1 := hv2.len
              have h2 := HVN.out
              omega
            subst hvv
            have HVA := Lib.hid hv2; have HVB := Lib.hid (GRow.later HV9.out hb2); have HBA := Lib.hid (HB9.out.trans (hb2.mono HB9.out.size))
            have HVN2 : Hid (V2.length = vn2) := Lib.hid hv2.len
            clear hv2 hb2 hV2 HKY HV9 HB9 HRW
            have hne : ((vn2 : Int) != (vn2 : Int)) = false := by simp
            go_wp2_with fail
            go_loopg [16] vn2 (fun gk vi wr => ∃ i : Nat, vi = .int .i64 i ∧ i ≤ vn2 ∧ vn2 - i ≤ gk ∧ Hid (Below wa.heap.size wa wr))
            case atStart => exact ⟨0, rfl, Nat.zero_le _, by omega, Lib.hid (Below.refl _ _)⟩
            case round =>
              obtain ⟨i, rfl, hi, hgk, HQ⟩ := hrel
              by_cases hlt : i < vn2
              · have hlt2 : (i : Int) < (vn2 : Int) := by omega
                obtain ⟨b1, off1, hA1, hc1⟩ := GRow.cells Vou.len (by decide) (GRow.later HVA.out HQ.out) noVou i hlt
                obtain ⟨b2, off2, hA2, hc2⟩ := GRow.cells Vou.len (by decide) (GRow.later HVB.out HQ.out) noVou i hlt
                have HKE := Lib.hid (keys_at HK.out i (by rw [HVN2.out]; exact hlt))
                subst hA1 hA2
                obtain ⟨p1, hp1⟩ : ∃ p, V2.getD i noVou = p := ⟨_, rfl⟩
                obtain ⟨p2, hp2⟩ : ∃ p, V.getD i noVou = p := ⟨_, rfl⟩
                rw [hp1] at hc1 HKE
                rw [hp2] at hc2 HKE
                have f0 : wr.cell? ⟨b1, off1 + i * 7, none⟩ = some (.int .i64 p1.fr) := hc1 0 (by decide)
                have f1 : wr.cell? ⟨b1, off1 + i * 7 + 1, none⟩ = some (.int .i64 p1.tu) := hc1 1 (by decide)
                have f3 : wr.cell? ⟨b1, off1 + i * 7 + 3, none⟩ = some (.int .i64 p1.nu) := hc1 3 (by decide)
                have g0 : wr.cell? ⟨b2, off2 + i * 7, none⟩ = some (.int .i64 p2.fr) := hc2 0 (by decide)
                have g1 : wr.cell? ⟨b2, off2 + i * 7 + 1, none⟩ = some (.int .i64 p2.tu) := hc2 1 (by decide)
                have g3 : wr.cell? ⟨b2, off2 + i * 7 + 3, none⟩ = some (.int .i64 p2.nu) := hc2 3 (by decide)
                have d0 : (p1.fr != p2.fr) = false := by rw [HKE.out.1]; simp
                have d1 : (p1.tu != p2.tu) = false := by rw [HKE.out.2.1]; simp
                have d3 : (p1.nu != p2.nu) = false := by rw [HKE.out.2.2]; simp
                clear hc1 hc2 hp1 hp2
                go_wp2_with fail
                go_quiet (fail)
                clear f0 f1 f3 g0 g1 g3 d0 d1 d3
                go_wp2_with fail
                go_roundg (vn2 - (i + 1))
                case measure => omega
                case rel => exact ⟨i + 1, by go_num, by omega, Nat.le_refl _, Lib.hid (below_nq HQ.out nq)⟩
              · have hlt2 : ¬ (i : Int) < (vn2 : Int) := by omega
                go_wp2_with fail
                refine (HAW.out wr).mono ?_
                rintro e wz ⟨rfl, hbz⟩
                have HBZ := Lib.hid ((HBA.out.trans (HQ.out.mono HBA.out.size)).trans (hbz.mono (HBA.out.trans (HQ.out.mono HBA.out.size)).size))
                clear hbz
                go_wp2_with fail
                go_ret
                exact ⟨rfl, HBZ.out⟩
  · have gd : decide (tn ≤ 400) = false := decide_eq_false hn
    go_wp2_with fail
    clear gd
    refine (HAW.out w).mono ?_
    rintro e w1 ⟨rfl, hb⟩
    have HB := Lib.hid hb; clear hb
    go_wp2_with fail
    go_ret
    exact ⟨rfl, HB.out⟩
end Go.Proofs.Ytjmapbaofpilaaa
/-
  PROVED: for every input the law VouchOnce returns true and leaves its arguments as they were. Conditions: none but the row's own.
-/
namespace Go.Proofs.Ytjmapbaofpilaaa.vouchOnce
open Go.ChangeShapes Go.WideShapes Go.ChangeAt Go.RowKit
theorem own : ownKnob Try.prog.godebug = none := by kernel_rfl
theorem laidOut : laidOutB Try.prog = true := by kernel_rfl
theorem cellsI : Try.prog.cellsOf 3 = 1 := by kernel_rfl
set_option maxRecDepth 100000 in
theorem lifted (H10 : VouchC) (os : Os) (started : os.Started) (H : Type) (enc : TypeId × Value → H) :
    ReturnsInHanded {} Try.checked os 4 .any (Rows.vouchOnceSpec.pre6 enc Try.prog Try.f4 Rows.vouchOnceRow.domain false) (Rows.vouchOnceSpec.post enc Try.prog Try.f4 false true false false) := by
  refine returnsInHanded_of_change (C := Try.checked) own started (by kernel_rfl) Try.func4
    (ChangeSpec.witness6 (enc := enc) (C := Try.checked) false ⟨#[], #[.slice none 0 0, .int .i64 0], []⟩ 8 (by kernel_rfl) (by kernel_rfl) (by kernel_rfl) (by kernel_rfl)) ?_
  intro W base args ds gs before hval hW _ _
  have hW' := hW
  obtain ⟨p, q, hA, hV, rfl, _, _⟩ := hW
  rw [Try.params4] at hA hval
  obtain ⟨v0, v1, d0, d1, p0, p1, rfl, rfl, rfl, h0, h1⟩ := trodAll_two hA
  obtain ⟨rfl, rfl⟩ := trodVars_none hV
  obtain ⟨A, n, c, l, rfl, hr, _⟩ := open_i64s Try.underlying22 Try.underlying3 cellsI (hval 0 22 v0 rfl rfl) h0
  obtain ⟨a1, rfl, rfl, rfl, w1⟩ := open_int Try.underlying3 (hval 1 3 v1 rfl rfl) h1
  refine (vonce_any H10 A n c l a1 W hr).mono fun e W' ⟨he, hb⟩ => ?_
  subst he
  exact law_post laidOut (by kernel_rfl) Try.underlying4 (by kernel_rfl) rfl hW' rfl hb
theorem over (H10 : VouchC) : Rows.VouchOnceSaid :=
  OpenClaim.holds_of_wide 4 Try.f4 rfl rfl rfl rfl rfl rfl rfl ⟨rfl, rfl, rfl, rfl, rfl⟩ rfl rfl rfl rfl rfl (by kernel_rfl) Try.func4 (by kernel_rfl)
    (of_decide_eq_true (by kernel_rfl)) (by unfold Func.isWrapper; first | (rw [if_pos (by decide +kernel)]; kernel_rfl) | (rw [if_neg (by decide +kernel)]; exact ⟨rfl, rfl⟩))
    (fun os started H enc _ => lifted H10 os started H enc)
end Go.Proofs.Ytjmapbaofpilaaa.vouchOnce
/- Three slices of a call that grow together. -/
namespace Go.Proofs.Ytjmapbaofpilaaa
open Go.RowKit
theorem own_apart10 {w : World} {B B' : Nat} {e e' : TypeId} {sz sz' : Nat} {v v' : Value} {n n' : Nat} {xs xs' : List Value} (h : w.ownsRow B e sz v n xs) (h' : w.ownsRow B' e' sz' v' n' xs') (hne : e ≠ e') : ∀ g, v'.ownBlock = some g → v.ownBlock ≠ some g := by
  intro g h1 h2
  rcases h.2 with ⟨hn, _⟩ | ⟨a, cap, cur, rfl, hg, hgg, _⟩
  · subst hn; cases h2
  · rcases h'.2 with ⟨hn, _⟩ | ⟨a', cap', cur', rfl, hg', hgg', _⟩
    · subst hn; cases h1
    · have e1 : a = g := by simpa [Value.ownBlock] using h2
      have e2 : a' = g := by simpa [Value.ownBlock] using h1
      subst e1 e2
      rw [hgg] at hgg'
      injection hgg' with e3
      injection e3 with _ e4
      exact hne e4
/-- Three slices of the call's own: statements without lists, and two of numbers. -/
structure LW (x : World) (B : Nat) (v4 v5 v6 : Value) (l : List Pl) (ends rev : List Int) : Prop where
  o4 : x.ownsRow B 34 13 v4 l.length (plsC l)
  ok : ∀ p ∈ l, (∀ y, PlOk y p) ∧ Small p.s
  o5 : x.ownsRow B 3 1 v5 ends.length (intsV ends)
  o6 : x.ownsRow B 3 1 v6 rev.length (intsV rev)
  sep : ∀ k, v5.ownBlock = some k → v6.ownBlock ≠ some k
theorem LW.nil (x : World) (B : Nat) : LW x B (.slice none 0 0) (.slice none 0 0) (.slice none 0 0) [] [] [] := ⟨World.ownsRow_nil _ _ _ _, fun _ h => (nomatch h), World.ownsRow_nil _ _ _ _, World.ownsRow_nil _ _ _ _, fun _ h => (nomatch h)⟩
theorem LW.s45 {x : World} {B : Nat} {v4 v5 v6 : Value} {l : List Pl} {ends rev : List Int} (h : LW x B v4 v5 v6 l ends rev) : ∀ k, v4.ownBlock = some k → v5.ownBlock ≠ some k := own_apart10 h.o5 h.o4 (by decide)
theorem LW.s46 {x : World} {B : Nat} {v4 v5 v6 : Value} {l : List Pl} {ends rev : List Int} (h : LW x B v4 v5 v6 l ends rev) : ∀ k, v4.ownBlock = some k → v6.ownBlock ≠ some k := own_apart10 h.o6 h.o4 (by decide)
theorem LW.keep {x y : World} {B : Nat} {v4 v5 v6 : Value} {l : List Pl} {ends rev : List Int} (h : LW x B v4 v5 v6 l ends rev) (hk : ∀ k, k < x.heap.size → B ≤ k → y.heap[k]? = x.heap[k]?) : LW y B v4 v5 v6 l ends rev :=
  ⟨own_keepL h.o4 fun g hg => hk g (own_lt h.o4 g hg) (own_ge h.o4 g hg), h.ok, own_keepL h.o5 fun g hg => hk g (own_lt h.o5 g hg) (own_ge h.o5 g hg), own_keepL h.o6 fun g hg => hk g (own_lt h.o6 g hg) (own_ge h.o6 g hg), h.sep⟩
theorem LW.but {x y : World} {B D : Nat} {v4 v5 v6 : Value} {l : List Pl} {ends rev : List Int} (h : LW x B v4 v5 v6 l ends rev) (hb : But D x y) (hD : D < B) : LW y B v4 v5 v6 l ends rev := h.keep fun k hk hB => hb.block k hk (by omega)
theorem LW.later {x y : World} {B : Nat} {v4 v5 v6 : Value} {l : List Pl} {ends rev : List Int} (h : LW x B v4 v5 v6 l ends rev) (hb : Below x.heap.size x y) : LW y B v4 v5 v6 l ends rev := h.keep fun k hk _ => hb.block k hk
theorem LW.lrow {x : World} {B : Nat} {A : Option Addr} {c : Nat} {v5 v6 : Value} {l : List Pl} {ends rev : List Int} (h : LW x B (.slice A l.length c) v5 v6 l ends rev) : LRow x A l.length c l := by
  obtain ⟨A3, c3, hv, hr⟩ := Row.of_own h.o4
  injection hv with h1 _ h3
  subst h1 h3
  exact ⟨hr, fun p hp => (h.ok p hp).1 x⟩
theorem own_irow {x : World} {B : Nat} {A : Option Addr} {n c : Nat} {l : List Int} (h : x.ownsRow B 3 1 (.slice A n c) l.length (intsV l)) : IRow x A l.length c l := by
  obtain ⟨A3, c3, hv, hr⟩ := Row.of_own h
  injection hv with h1 _ h3
  subst h1 h3
  exact hr
theorem sep_new {x : World} {v v' u : Value} {B : Nat} {e : TypeId} {sz n : Nat} {xs : List Value} (hu : x.ownsRow B e sz u n xs) (hs : ∀ k, v.ownBlock = some k → u.ownBlock ≠ some k) (hv : v'.ownBlock = v.ownBlock ∨ ∃ k, x.heap.size ≤ k ∧ v'.ownBlock = some k) : ∀ k, v'.ownBlock = some k → u.ownBlock ≠ some k := by
  intro k hk he
  rcases hv with h | ⟨j, hj, h⟩
  · exact hs k (by rw [← h]; exact hk) he
  · rw [h] at hk
    injection hk with hk
    have := own_lt hu k he
    omega
theorem LW.app4 {x y : World} {B : Nat} {v4 v5 v6 v' : Value} {l : List Pl} {ends rev : List Int} {q : Pl} (h : LW x B v4 v5 v6 l ends rev) (hq : (∀ y, PlOk y q) ∧ Small q.s) (ho : y.ownsRow B 34 13 v' (l.length + 1) (plsC l ++ plsC [q]))
    (hk : ∀ k, k < x.heap.size → v4.ownBlock ≠ some k → y.heap[k]? = x.heap[k]?) : LW y B v' v5 v6 (l ++ [q]) ends rev := by
  refine ⟨by rw [List.length_append, plsC_app]; exact ho, fun p hp => ?_, own_keepL h.o5 fun g hg => hk g (own_lt h.o5 g hg) fun e => h.s45 g e hg, own_keepL h.o6 fun g hg => hk g (own_lt h.o6 g hg) fun e => h.s46 g e hg, h.sep⟩
  rcases List.mem_append.1 hp with hp | hp
  · exact h.ok p hp
  · rw [List.mem_singleton.1 hp]; exact hq
theorem LW.app5 {x y : World} {B : Nat} {v4 v5 v6 v' : Value} {l : List Pl} {ends rev : List Int} {i : Int} (h : LW x B v4 v5 v6 l ends rev) (ho : y.ownsRow B 3 1 v' (ends.length + 1) (intsV ends ++ intsV [i]))
    (hk : ∀ k, k < x.heap.size → v5.ownBlock ≠ some k → y.heap[k]? = x.heap[k]?) (hv : v'.ownBlock = v5.ownBlock ∨ ∃ k, x.heap.size ≤ k ∧ v'.ownBlock = some k) : LW y B v4 v' v6 l (ends ++ [i]) rev :=
  ⟨own_keepL h.o4 fun g hg => hk g (own_lt h.o4 g hg) (h.s45 g hg), h.ok, by rw [List.length_append, intsV_app]; exact ho, own_keepL h.o6 fun g hg => hk g (own_lt h.o6 g hg) fun e => h.sep g e hg, sep_new h.o6 h.sep hv⟩
theorem LW.app6 {x y : World} {B : Nat} {v4 v5 v6 v' : Value} {l : List Pl} {ends rev : List Int} {i : Int} (h : LW x B v4 v5 v6 l ends rev) (ho : y.ownsRow B 3 1 v' (rev.length + 1) (intsV rev ++ intsV [i]))
    (hk : ∀ k, k < x.heap.size → v6.ownBlock ≠ some k → y.heap[k]? = x.heap[k]?) (hv : v'.ownBlock = v6.ownBlock ∨ ∃ k, x.heap.size ≤ k ∧ v'.ownBlock = some k) : LW y B v4 v5 v' l ends (rev ++ [i]) :=
  ⟨own_keepL h.o4 fun g hg => hk g (own_lt h.o4 g hg) (h.s46 g hg), h.ok, own_keepL h.o5 fun g hg => hk g (own_lt h.o5 g hg) (h.sep g hg), by rw [List.length_append, intsV_app]; exact ho, fun k hk5 hk6 => (sep_new (v := v6) (v' := v') (u := v5) h.o5 (fun k h6 h5 => h.sep k h5 h6) hv) k hk6 hk5⟩
theorem own_put {x : World} {B g o c : Nat} {l : List Int} {k : Nat} {i : Int} (h : x.ownsRow B 3 1 (.slice (some ⟨g, o, none⟩) l.length c) l.length (intsV l)) : o = 0 ∧ (x.setCell ⟨g, o + k, none⟩ (.int .i64 i)).ownsRow B 3 1 (.slice (some ⟨g, o, none⟩) l.length c) l.length (intsV (l.set k i)) := by
  obtain ⟨h1, ⟨hn, _⟩ | ⟨g2, cap, cur, hv, hB, hg, hnc, hcm, hcs, htk⟩⟩ := h
  · cases hn
  · injection hv with ha hb hc
    injection ha with ha
    injection ha with e1 e2
    subst e1 e2 hc
    refine ⟨rfl, by rw [intsV_len, List.length_set, Nat.mul_one], .inr ⟨g, c, cur.setIfInBounds k (.int .i64 i), rfl, hB, ?_, hnc, hcm, by simpa using hcs, ?_⟩⟩
    · rw [Nat.zero_add]
      unfold World.setCell
      simp only [Array.getElem?_modify, hg]
      rfl
    · rw [Array.toList_setIfInBounds, List.take_set, htk]
      unfold intsV
      rw [List.map_set]
      rfl
theorem LW.put {x : World} {B g o c : Nat} {v4 v5 : Value} {l : List Pl} {ends rev : List Int} {k : Nat} {i : Int} (h : LW x B v4 v5 (.slice (some ⟨g, o, none⟩) rev.length c) l ends rev) : LW (x.setCell ⟨g, o + k, none⟩ (.int .i64 i)) B v4 v5 (.slice (some ⟨g, o, none⟩) rev.length c) l ends (rev.set k i) := by
  have hp := (own_put (i := i) (k := k) h.o6).2
  have hb : But g x (x.setCell ⟨g, o + k, none⟩ (.int .i64 i)) := But.set x (o + k) (.int .i64 i)
  refine ⟨own_keepL h.o4 fun j hj => hb.block j (own_lt h.o4 j hj) fun e => h.s46 j hj (by rw [e]; rfl), h.ok, own_keepL h.o5 fun j hj => hb.block j (own_lt h.o5 j hj) fun e => h.sep j hj (by rw [e]; rfl), by rw [List.length_set]; exact hp, fun j hj e => h.sep j hj ?_⟩
  exact e
theorem own_thaw {x : World} {B g o c : Nat} {l : List Int} {n : Nat} (h : x.ownsRow B 3 1 (.slice (some ⟨g, o, none⟩) n c) l.length (intsV l)) (k : Nat) : x.frozen? ⟨g, o + k, none⟩ = false := by
  obtain ⟨_, ⟨hn, _⟩ | ⟨g2, cap, cur, hv, hB, hg, _⟩⟩ := h
  · cases hn
  · injection hv with ha _ _
    injection ha with ha
    injection ha with e1 e2
    subst e1 e2
    exact frozen_of_row _ _ _ _ _ hg
/-- A store into the third slice. -/
theorem rnd_own {L D : Nat} {t : List Int} {w1 wr x : World} {v4 v5 : Value} {g o c k n : Nat} {l : List Pl} {ends rev : List Int} {v : Value} (h : Rnd L D t wr x) (hr : Rnd L D t w1 wr) (hl : LW wr w1.heap.size v4 v5 (.slice (some ⟨g, o, none⟩) n c) l ends rev) (hD : D < w1.heap.size) : Rnd L D t w1 (x.setCell ⟨g, o + k, none⟩ v) := by
  have hg : w1.heap.size ≤ g := own_ge hl.o6 g rfl
  exact rnd_set ⟨hr.but.trans h.but, h.dice⟩ hg hD
theorem revSet_len (ends rev : List Int) (k : Nat) (tm : Int) : (revSet ends rev k tm).length = rev.length := by
  unfold revSet
  split
  · exact List.length_set
  · rfl
theorem bare_ok {w : World} {q : Pl} (h : PlOk w q) (hl : q.s.list = []) (hp : q.s.pins = []) : ∀ y, PlOk y q := by
  intro y
  obtain ⟨h1, h2⟩ := h
  unfold PlOk
  rw [hl] at h1 ⊢
  rw [hp] at h2 ⊢
  refine ⟨?_, ?_⟩
  · have hn : q.n = 0 := (IRow.len h1).symm
    exact ⟨Row.len h1, Row.cap h1, Row.nil h1, fun ad e hc => by obtain ⟨b, off, e2, _⟩ := Row.some_ h1 ad e hc; exact ⟨b, off, e2, fun i hi => absurd hi (by omega)⟩⟩
  · have hn : q.m = 0 := (PRow.len h2).symm
    exact ⟨Row.len h2, Row.cap h2, Row.nil h2, fun ad e hc => by obtain ⟨b, off, e2, _⟩ := Row.some_ h2 ad e hc; exact ⟨b, off, e2, fun i hi => absurd hi (by omega)⟩⟩
end Go.Proofs.Ytjmapbaofpilaaa
