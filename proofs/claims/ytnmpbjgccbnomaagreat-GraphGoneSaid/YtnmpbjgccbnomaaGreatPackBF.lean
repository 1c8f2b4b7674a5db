import Derived.Test.YtnmpbjgccbnomaaGreatPackBE
/- The walk of the law GraphGone, over any program that gives what layer 11 asks. -/
namespace Go.Proofs.YtnmpbjgccbnomaaGreat
open Go.RowKit
theorem out_gone {G : Gr} (h : Good11 G) {x : Int} (hx : hasI G.gn x = true) : outS G.es x = [] ∧ inS G.es x = [] := by
  have hk : ∀ e ∈ G.es, e.fr ≠ x ∧ e.tu ≠ x := fun e he => by
    have hf := h.free e he
    unfold freeB at hf
    rw [Bool.and_eq_true] at hf
    refine ⟨fun e1 => ?_, fun e1 => ?_⟩
    · rw [e1, hx] at hf; exact absurd hf.1 (by decide)
    · rw [e1, hx] at hf; exact absurd hf.2 (by decide)
  constructor
  · unfold outS
    rw [List.flatMap_eq_nil_iff]
    exact fun e he => if_neg (hk e he).1
  · unfold inS
    rw [List.flatMap_eq_nil_iff]
    exact fun e he => if_neg (hk e he).2
theorem check_time {s : Stm} (h : checkV s = 0) : 0 ≤ s.time := by
  unfold checkV at h
  split at h
  · exact absurd h (by decide)
  · split at h
    · exact absurd h (by decide)
    · split at h
      · exact absurd h (by decide)
      · rename_i h3
        have h4 : btw s.time 0 2147483648 = true := by simpa using h3
        exact ((btw_iff _ _ _).1 h4).1
theorem at_none {L : List Stm} (h : Ord10 L) (hl : L.length ≤ 500) : atG L (-1) 1 = (⟨64, [], []⟩, 0) := by
  rw [at_ok hl]
  have h1 : edgesAt L (-1) 1 = [] := by
    rw [List.eq_nil_iff_forall_not_mem]
    intro e he
    obtain ⟨s, hs, -⟩ := edge_of h he
    have := check_time (h.ok s hs.mem)
    have := hs.time
    omega
  have h2 : ∀ j, goneUp L (-1) j = [] := by
    intro j
    induction j with
    | zero => rfl
    | succ j ih =>
      unfold goneUp
      rw [ih]
      have : isGoneB L (-1) j = false := by
        unfold isGoneB
        rw [List.any_eq_false]
        intro s hs hl
        unfold leftB at hl
        rw [Bool.and_eq_true, decide_eq_true_eq] at hl
        have := check_time (h.ok s hs)
        omega
      rw [this]; rfl
  rw [h1]
  unfold goneS
  rw [h2]
set_option maxRecDepth 100000 in
set_option maxHeartbeats 4000000 in
theorem ggone_law (H : GraphC) (K : AtC) (TA : Option Addr) (tn tc : Nat) (t : List Int) (tm : Int) (w : World) (ht : IRow w TA tn tc t) :
    Calls Tryz.prog 4 #[.slice TA tn tc, .int .i64 tm] w (SaysL (.bool true) w) := by
  have HAW : Hid (∀ y, Calls Tryz.prog 6 #[] y (SaysL (.bool true) y)) := Lib.hid fun y => awake11_any H y
  have HT := Lib.hid ht; clear ht
  go_enter Tryz.func4, Tryz.ntmps4
  go_wp2_with fail
  refine (light_any TA tn tc w).mono ?_
  rintro e w0 ⟨rfl, rfl⟩
  by_cases hn : tn ≤ 400
  · have gd : decide (tn ≤ 400) = true := decide_eq_true hn
    go_wp2_with fail
    clear gd
    refine (roll_any w.heap.size TA tn tc t w HT.out (by omega) (Nat.le_refl _) (fun ad e h0 => Row.lt HT.out (by decide) ad e h0)).mono ?_
    rintro e w1 ⟨rfl, hd, hb⟩
    obtain ⟨D, hD⟩ : ∃ D, D = w.heap.size := ⟨_, rfl⟩
    have HD : Hid (∃ k, DiceAt w1 w.heap.size D t k) := Lib.hid ⟨0, by rw [hD]; exact hd⟩
    have HB := Lib.hid hb
    have HDD : Hid (w.heap.size = D) := Lib.hid hD.symm
    rw [← hD]
    clear hd hb hD HT
    go_wp2_with fail
    refine (dstore_g w.heap.size D t 6 w1 HD.out (by omega)).mono ?_
    rintro e w2 ⟨A2, c2, l2, rfl, hr2, hs2, hl2, hg⟩
    have HB2 := Lib.hid (HB.out.trans (hg.2.below (by have := HDD.out; omega) HB.out.size))
    have HR2 := Lib.hid hr2; have HS2 := Lib.hid hs2
    clear hr2 hs2 hg HB HD
    go_wp2_with fail
    refine (countedAll_hi A2 l2.length c2 l2 w2 HR2.out (by omega) HS2.out).mono ?_
    rintro e w4 ⟨v, l, rfl, hm, ho, hhi, hb⟩
    obtain ⟨A, c, hv, hr⟩ := ho.row
    subst hv
    have HL := Lib.hid hr
    have HB := Lib.hid (HB2.out.trans (hb.mono HB2.out.size))
    have HO : Hid (Ord10 (l.map (·.s))) := Lib.hid (by rw [hm]; exact ord10_counted _)
    have hl5 : l.length ≤ 500 := by
      have h1 := countedAll_len (l2.map (·.s))
      rw [List.length_map] at h1
      have h2 := congrArg List.length hm
      rw [List.length_map] at h2
      omega
    have hln : l.length ≤ 100000 := by omega
    have HL5 : Hid ((l.map (·.s)).length ≤ 500) := Lib.hid (by rw [List.length_map]; exact hl5)
    have HK : Hid (∀ at9 j, j < l.length → (l.getD j noPl).s.kind = 3 → hasI (goneS (l.map (·.s)) at9) (l.getD j noPl).s.author = decide ((l.getD j noPl).s.time ≤ at9)) := Lib.hid fun at9 j hj hk => by
      have hmem : (l.getD j noPl).s ∈ l.map (·.s) := List.mem_map.2 ⟨_, by rw [List.getD_eq_getElem?_getD, List.getElem?_eq_getElem hj]; exact List.getElem_mem hj, rfl⟩
      rw [hm] at hmem ⊢
      exact gone_time hmem hk at9
    clear hm ho hhi hb hr HR2 HS2 HB2 hl2 hl5
    go_wp2_with fail
    refine (mod_any tm 90 w4 (by decide) (by decide)).mono ?_
    rintro e wm ⟨rfl, rfl⟩
    generalize modF tm 90 = at9 at *
    obtain ⟨G, hG⟩ : ∃ G, G = (atG (l.map (·.s)) at9 1).1 := ⟨_, rfl⟩
    have hG1 : atG (l.map (·.s)) at9 1 = (G, 0) := by rw [hG, at_ok HL5.out]
    have hG2 : G.gn = goneS (l.map (·.s)) at9 := by rw [hG, at_ok HL5.out]
    have HGD : Hid (Good11 G) := Lib.hid (by rw [hG]; exact atG_good HO.out _ _)
    have HG64 : Hid (G.sz = 64) := Lib.hid (by rw [hG, at_ok HL5.out])
    have HP1 : Hid (∀ y, LRow y A l.length c l → Calls Tryz.prog 11 #[.slice A l.length c, .int .i64 at9, .int .i64 1] y (GivesGE y (G, 0))) := Lib.hid fun y h => hG1 ▸ K.at_ A l.length c l at9 1 y h hln HO.out
    have HP2 : Hid (∀ y, LRow y A l.length c l → Calls Tryz.prog 11 #[.slice A l.length c, .int .i64 (-1), .int .i64 1] y (GivesGE y (⟨64, [], []⟩, 0))) := Lib.hid fun y h => at_none HO.out HL5.out ▸ K.at_ A l.length c l (-1) 1 y h hln HO.out
    have HCK : Hid (∀ y v, GHold y G v → Calls Tryz.prog 16 #[v] y (SaysL (.int .i64 0) y)) := Lib.hid fun y v h => by
      have h1 := H.check G v y h HGD.out.few.1 HGD.out.few.2
      have h2 : checkG G = 0 := by unfold checkG; rw [if_pos ((okG_iff G).2 HGD.out)]
      rwa [h2] at h1
    have HOU : Hid (∀ y v x, GHold y G v → Calls Tryz.prog 18 #[v, .int .i64 x] y (GivesI y (outS G.es x))) := Lib.hid fun y v x h => H.out G v x y h HGD.out
    have HIN : Hid (∀ y v x, GHold y G v → Calls Tryz.prog 19 #[v, .int .i64 x] y (GivesI y (inS G.es x))) := Lib.hid fun y v x h => H.in_ G v x y h HGD.out
    have HK2 : Hid (∀ j, j < l.length → (l.getD j noPl).s.kind = 3 → hasI G.gn (l.getD j noPl).s.author = decide ((l.getD j noPl).s.time ≤ at9)) := Lib.hid fun j hj hk => by rw [hG2]; exact HK.out at9 j hj hk
    have HGL : Hid (G.gn.length ≤ 100000) := Lib.hid HGD.out.few.2
    clear hG hG1 hG2 HK
    obtain ⟨n, hnl⟩ : ∃ n, n = l.length := ⟨_, rfl⟩
    rw [← hnl] at HL HP1 HP2 HK2 hln ⊢
    have HNL := Lib.hid hnl
    clear hnl
    go_wp2_with fail
    refine (HP1.out w4 HL.out).mono ?_
    rintro e a0 ⟨v0, rfl, hv, hb⟩
    have HV0 := Lib.hid hv
    obtain ⟨A0, n0, c0, B0, m0, k0, rfl, ha, hh⟩ := hv
    clear ha hh
    replace HL := Lib.hid (HL.out.later hb); replace HB := Lib.hid (HB.out.trans (hb.mono HB.out.size))
    clear hb
    go_upto_region 7 with (refine wpList_store_new rfl 35 (.tmp 8) (.tmp 29) rfl 35 _ #[.int .i64 G.sz, .slice A0 n0 c0, .slice B0 m0 k0] rfl rfl gr_size rfl (by simp [Value.oneCell']) ?_)
    have hb := one_new a0 (.cells #[.int .i64 G.sz, .slice A0 n0 c0, .slice B0 m0 k0] 35)
    have HC0 : Hid ((a0.alloc (.cells #[.int .i64 G.sz, .slice A0 n0 c0, .slice B0 m0 k0] 35)).heap[a0.heap.size]? = some (.cells #[.int .i64 G.sz, .slice A0 n0 c0, .slice B0 m0 k0] 35 (0, 0))) := Lib.hid (heap_alloc_new _ _)
    replace HV0 := Lib.hid (GHold.later HV0.out hb)
    replace HL := Lib.hid (HL.out.later hb); replace HB := Lib.hid (HB.out.trans (hb.mono HB.out.size))
    clear hb
    generalize a0.alloc (.cells #[.int .i64 G.sz, .slice A0 n0 c0, .slice B0 m0 k0] 35) = b0 at *
    generalize a0.heap.size = g0 at *
    try dsimp only [Act.put]
    clear HP1
    go_wp2_with fail
    refine (HP2.out b0 HL.out).mono ?_
    rintro e a1 ⟨v1, rfl, hv, hb⟩
    have HV1 := Lib.hid hv
    obtain ⟨A1, n1, c1, B1, m1, k1, rfl, ha, hh⟩ := hv
    have e1 : n1 = 0 := (ERow.len ha).symm
    have e2 : m1 = 0 := hh.len.symm
    subst e1 e2
    clear ha hh
    replace HC0 := Lib.hid ((hb.block _ (Array.getElem?_eq_some_iff.1 HC0.out).1).trans HC0.out)
    replace HV0 := Lib.hid (GHold.later HV0.out hb)
    replace HL := Lib.hid (HL.out.later hb); replace HB := Lib.hid (HB.out.trans (hb.mono HB.out.size))
    clear hb
    go_upto_region 8 with (refine wpList_store_new rfl 35 (.tmp 10) (.tmp 34) rfl 35 _ #[.int .i64 64, .slice A1 0 c1, .slice B1 0 k1] rfl rfl gr_size rfl (by simp [Value.oneCell']) ?_)
    have hb := one_new a1 (.cells #[.int .i64 64, .slice A1 0 c1, .slice B1 0 k1] 35)
    have HC1 : Hid ((a1.alloc (.cells #[.int .i64 64, .slice A1 0 c1, .slice B1 0 k1] 35)).heap[a1.heap.size]? = some (.cells #[.int .i64 64, .slice A1 0 c1, .slice B1 0 k1] 35 (0, 0))) := Lib.hid (heap_alloc_new _ _)
    replace HC0 := Lib.hid ((hb.block _ (Array.getElem?_eq_some_iff.1 HC0.out).1).trans HC0.out)
    replace HV0 := Lib.hid (GHold.later HV0.out hb)
    replace HV1 := Lib.hid (GHold.later HV1.out hb)
    replace HL := Lib.hid (HL.out.later hb); replace HB := Lib.hid (HB.out.trans (hb.mono HB.out.size))
    clear hb
    generalize a1.alloc (.cells #[.int .i64 64, .slice A1 0 c1, .slice B1 0 k1] 35) = b1 at *
    generalize a1.heap.size = g1 at *
    try dsimp only [Act.put]
    clear HP2
    have hx1 : b1.cell? ⟨g1, 1, none⟩ = some (.slice A1 0 c1) := (cell_of_row _ _ 1 _ _ _ HC1.out).trans rfl
    have hx2 : b1.cell? ⟨g1, 2, none⟩ = some (.slice B1 0 k1) := (cell_of_row _ _ 2 _ _ _ HC1.out).trans rfl
    go_wp2_with (refine wpList_load_rowG rfl 35 (.tmp 8) rfl g0 rfl 35 #[.int .i64 G.sz, .slice A0 n0 c0, .slice B0 m0 k0] (0, 0) _ HC0.out Tryz.underlying35 rfl gr_size ?_)
    clear hx1 hx2
    refine (HCK.out b1 _ HV0.out).mono ?_
    rintro e b2 ⟨rfl, hb⟩
    replace HC0 := Lib.hid ((hb.block _ (Array.getElem?_eq_some_iff.1 HC0.out).1).trans HC0.out)
    replace HC1 := Lib.hid ((hb.block _ (Array.getElem?_eq_some_iff.1 HC1.out).1).trans HC1.out)
    replace HV0 := Lib.hid (GHold.later HV0.out hb)
    replace HL := Lib.hid (HL.out.later hb); replace HB := Lib.hid (HB.out.trans (hb.mono HB.out.size))
    clear hb
    have hx1 : b2.cell? ⟨g1, 1, none⟩ = some (.slice A1 0 c1) := (cell_of_row _ _ 1 _ _ _ HC1.out).trans rfl
    have hx2 : b2.cell? ⟨g1, 2, none⟩ = some (.slice B1 0 k1) := (cell_of_row _ _ 2 _ _ _ HC1.out).trans rfl
    clear HC1 HV1 HCK
    go_wp2_with fail
    clear hx1 hx2
    obtain ⟨v0, hv0⟩ : ∃ v0, v0 = Value.agg #[.int .i64 G.sz, .slice A0 n0 c0, .slice B0 m0 k0] := ⟨_, rfl⟩
    have HVE := Lib.hid hv0
    rw [← hv0] at HV0
    clear hv0
    go_loopw [12] (fun i wr => ∃ j : Nat, j ≤ n ∧ i = .int .i64 j ∧ Hid (LRow wr A n c l ∧ Below w.heap.size w wr ∧ wr.heap[g0]? = some (.cells #[.int .i64 G.sz, .slice A0 n0 c0, .slice B0 m0 k0] 35 (0, 0)) ∧ GHold wr G v0)) (fun i _ => n - (intOf i).toNat)
    case atStart => exact ⟨0, Nat.zero_le _, rfl, Lib.hid ⟨HL.out, HB.out, HC0.out, HV0.out⟩⟩
    case round =>
      clear HL HB HC0 HV0
      obtain ⟨j, hj, rfl, HQ⟩ := hrel
      have HL := Lib.hid HQ.out.1; have HB := Lib.hid HQ.out.2.1; have HC0 := Lib.hid HQ.out.2.2.1; have HV0 := Lib.hid HQ.out.2.2.2
      clear HQ
      by_cases hlt : j < n
      · have hlt2 : (j : Int) < (n : Int) := by omega
        obtain ⟨b, off, hA, hc⟩ := HL.out.cells j hlt
        have HAE := Lib.hid hA
        have HC := Lib.hid hc
        have HKJ := Lib.hid (HK2.out j (by have := HNL.out; omega))
        have HLL : Hid (LRow wr (some ⟨b, off, none⟩) n c l) := Lib.hid (by rw [← hA]; exact HL.out)
        clear hc
        subst hA
        clear HLL
        generalize l.getD j noPl = q at *
        go_upto_region 14 with (first | (refine wpList_load_cells rfl 48 (.tmp 67) rfl b (off + j * 13) rfl q.arr _ Tryz.underlying48 rfl q.info HC.out ?_) | (refine wpList_store_new rfl 48 (.tmp 13) (.tmp 68) rfl 48 _ q.arr rfl rfl q.info rfl q.one ?_))
        have hb := one_new wr (.cells q.arr 48)
        have HX : Hid ((wr.alloc (.cells q.arr 48)).heap[wr.heap.size]? = some (.cells q.arr 48 (0, 0))) := Lib.hid (heap_alloc_new _ _)
        replace HC0 := Lib.hid ((hb.block _ (Array.getElem?_eq_some_iff.1 HC0.out).1).trans HC0.out)
        replace HV0 := Lib.hid (GHold.later HV0.out hb)
        replace HL := Lib.hid (HL.out.later hb); replace HB := Lib.hid (HB.out.trans (hb.mono HB.out.size))
        clear hb
        generalize wr.alloc (.cells q.arr 48) = y0 at *
        generalize wr.heap.size = g at *
        clear HC
        try dsimp only [Act.put]
        refine wp_region_grow (by kernel_rfl) Later Later.refl (fun _ _ _ => Later.trans) [29, 30, 31, 32, 33, 34] [([0, 1, 2, 3, 4, 5, 6, 7, 9, 10, 11, 12], 8), ([13, 14, 15, 16, 17, 18, 19, 20, 21, 22, 25, 26, 27], 23), ([24], 28)] (by kernel_rfl) (by kernel_rfl) (by kernel_rfl) ?_
        simp only [List.map_cons, List.map_nil, pick, List.getD_cons_zero, List.getD_cons_succ]
        have hb : Below y0.heap.size y0 y0.drew := (Below.refl _ _).drew
        replace HC0 := Lib.hid ((hb.block _ (Array.getElem?_eq_some_iff.1 HC0.out).1).trans HC0.out)
        replace HX := Lib.hid ((hb.block _ (Array.getElem?_eq_some_iff.1 HX.out).1).trans HX.out)
        replace HV0 := Lib.hid (GHold.later HV0.out hb)
        replace HL := Lib.hid (HL.out.later hb); replace HB := Lib.hid (HB.out.trans (hb.mono HB.out.size))
        clear hb
        generalize y0.drew = z0 at *
        by_cases hk : q.s.kind = 3
        · have b0 : (q.s.kind == 3) = true := by rw [hk]; rfl
          replace HKJ := Lib.hid (HKJ.out hk)
          clear hk
          by_cases ht : q.s.time ≤ at9
          · have b1 : decide (q.s.time ≤ at9) = true := decide_eq_true ht
            have HNIL := Lib.hid (out_gone HGD.out (by rw [HKJ.out, b1] : hasI G.gn q.s.author = true))
            clear ht
            have hs4 : ∀ x, (fut Later z0 x).cell? ⟨g, 4, none⟩ = some (.int .i64 q.s.kind) := fun x => (cell_of_row _ _ 4 _ _ _ (((fut_ok Later.refl z0 x).block _ (Array.getElem?_eq_some_iff.1 HX.out).1).trans HX.out)).trans rfl
            have hs0 : ∀ x, (fut Later z0 x).cell? ⟨g, 0, none⟩ = some (.int .i64 q.s.author) := fun x => (cell_of_row _ _ 0 _ _ _ (((fut_ok Later.refl z0 x).block _ (Array.getElem?_eq_some_iff.1 HX.out).1).trans HX.out)).trans rfl
            have hs3 : ∀ x, (fut Later z0 x).cell? ⟨g, 3, none⟩ = some (.int .i64 q.s.time) := fun x => (cell_of_row _ _ 3 _ _ _ (((fut_ok Later.refl z0 x).block _ (Array.getElem?_eq_some_iff.1 HX.out).1).trans HX.out)).trans rfl
            have hg2 : ∀ x, (fut Later z0 x).cell? ⟨g0, 2, none⟩ = some (.slice B0 m0 k0) := fun x => (cell_of_row _ _ 2 _ _ _ (((fut_ok Later.refl z0 x).block _ (Array.getElem?_eq_some_iff.1 HC0.out).1).trans HC0.out)).trans rfl
            have hl0 : ∀ x, (loadVar 35 ⟨g0, 0, none⟩).run Tryz.prog (fut Later z0 x) = .ok (.agg #[.int .i64 G.sz, .slice A0 n0 c0, .slice B0 m0 k0]) (fut Later z0 x) := fun x => run_loadVar_row _ g0 35 35 #[.int .i64 G.sz, .slice A0 n0 c0, .slice B0 m0 k0] (0, 0) _ (((fut_ok Later.refl z0 x).block _ (Array.getElem?_eq_some_iff.1 HC0.out).1).trans HC0.out) Tryz.underlying35 rfl gr_size
            refine wpGrow_cons ?_
            repeat (first  | go_big_quiet_step (fail))
            refine wpQuiet_nil ?_
            clear hs4 hs0 hs3 hg2 hl0
            have HHAS : Hid (Calls Tryz.prog 17 #[.slice B0 m0 k0, .int .i64 q.s.author] z0 (SaysL (.bool true) z0)) := Lib.hid (by
              have hv := HV0.out
              rw [HVE.out] at hv
              obtain ⟨_, _, _, _, _, _, he, _, hr⟩ := hv
              injection he with he
              simp only [Array.mk.injEq, List.cons.injEq, Value.slice.injEq] at he
              obtain ⟨-, -, ⟨rfl, rfl, rfl⟩, -⟩ := he
              have h1 := has_any11 B0 m0 k0 G.gn q.s.author z0 hr (by rw [← hr.len]; exact HGL.out)
              rw [HKJ.out, b1] at h1
              exact h1)
            go_wp2_with fail
            refine HHAS.out.mono ?_
            rintro e z1 ⟨rfl, hb⟩
            have HF : Hid (Later z0 z1) := Lib.hid hb
            clear HHAS
            replace HC0 := Lib.hid ((hb.block _ (Array.getElem?_eq_some_iff.1 HC0.out).1).trans HC0.out)
            replace HX := Lib.hid ((hb.block _ (Array.getElem?_eq_some_iff.1 HX.out).1).trans HX.out)
            replace HV0 := Lib.hid (GHold.later HV0.out hb)
            replace HL := Lib.hid (HL.out.later hb); replace HB := Lib.hid (HB.out.trans (hb.mono HB.out.size))
            clear hb
            go_wp2_with fail
            refine pieceEnd_normal ⟨HF.out, ?_⟩
            clear HF
            have hs4 : ∀ x, (fut Later z1 x).cell? ⟨g, 4, none⟩ = some (.int .i64 q.s.kind) := fun x => (cell_of_row _ _ 4 _ _ _ (((fut_ok Later.refl z1 x).block _ (Array.getElem?_eq_some_iff.1 HX.out).1).trans HX.out)).trans rfl
            have hs0 : ∀ x, (fut Later z1 x).cell? ⟨g, 0, none⟩ = some (.int .i64 q.s.author) := fun x => (cell_of_row _ _ 0 _ _ _ (((fut_ok Later.refl z1 x).block _ (Array.getElem?_eq_some_iff.1 HX.out).1).trans HX.out)).trans rfl
            have hs3 : ∀ x, (fut Later z1 x).cell? ⟨g, 3, none⟩ = some (.int .i64 q.s.time) := fun x => (cell_of_row _ _ 3 _ _ _ (((fut_ok Later.refl z1 x).block _ (Array.getElem?_eq_some_iff.1 HX.out).1).trans HX.out)).trans rfl
            have hg2 : ∀ x, (fut Later z1 x).cell? ⟨g0, 2, none⟩ = some (.slice B0 m0 k0) := fun x => (cell_of_row _ _ 2 _ _ _ (((fut_ok Later.refl z1 x).block _ (Array.getElem?_eq_some_iff.1 HC0.out).1).trans HC0.out)).trans rfl
            have hl0 : ∀ x, (loadVar 35 ⟨g0, 0, none⟩).run Tryz.prog (fut Later z1 x) = .ok (.agg #[.int .i64 G.sz, .slice A0 n0 c0, .slice B0 m0 k0]) (fut Later z1 x) := fun x => run_loadVar_row _ g0 35 35 #[.int .i64 G.sz, .slice A0 n0 c0, .slice B0 m0 k0] (0, 0) _ (((fut_ok Later.refl z1 x).block _ (Array.getElem?_eq_some_iff.1 HC0.out).1).trans HC0.out) Tryz.underlying35 rfl gr_size
            refine wpGrow_cons ?_
            repeat (first | (refine wpQuiet_load rfl 35 (.tmp 8) rfl ⟨g0, 0, none⟩ rfl (.agg #[.int .i64 G.sz, .slice A0 n0 c0, .slice B0 m0 k0]) (fun w' h => by obtain ⟨x, rfl⟩ := h; exact hl0 x) ?_; simp only [Act.put, List.setIfInBounds_toArray, List.set_cons_succ, List.set_cons_zero]) | go_big_quiet_step (fail))
            refine wpQuiet_nil ?_
            clear hs4 hs0 hs3 hg2 hl0
            have HCL : Hid (Calls Tryz.prog 18 #[.agg #[.int .i64 G.sz, .slice A0 n0 c0, .slice B0 m0 k0], .int .i64 q.s.author] z1 (GivesI z1 [])) := Lib.hid (by
              have h1 := HOU.out z1 v0 q.s.author HV0.out
              rw [HNIL.out.1, HVE.out] at h1
              exact h1)
            go_wp2_with fail
            refine HCL.out.mono ?_
            rintro e z2 ⟨A7, n7, c7, rfl, hr, hb⟩
            have e1 : n7 = 0 := hr.len.symm
            subst e1
            have HF : Hid (Later z1 z2) := Lib.hid hb
            clear HCL hr
            replace HC0 := Lib.hid ((hb.block _ (Array.getElem?_eq_some_iff.1 HC0.out).1).trans HC0.out)
            replace HX := Lib.hid ((hb.block _ (Array.getElem?_eq_some_iff.1 HX.out).1).trans HX.out)
            replace HV0 := Lib.hid (GHold.later HV0.out hb)
            replace HL := Lib.hid (HL.out.later hb); replace HB := Lib.hid (HB.out.trans (hb.mono HB.out.size))
            clear hb
            go_wp2_with fail
            refine pieceEnd_normal ⟨HF.out, ?_⟩
            clear HF
            refine wpGrow_cons ?_
            repeat (go_big_quiet_step (fail))
            refine wpQuiet_nil ?_
            have HCL : Hid (Calls Tryz.prog 19 #[.agg #[.int .i64 G.sz, .slice A0 n0 c0, .slice B0 m0 k0], .int .i64 q.s.author] z2 (GivesI z2 [])) := Lib.hid (by
              have h1 := HIN.out z2 v0 q.s.author HV0.out
              rw [HNIL.out.2, HVE.out] at h1
              exact h1)
            go_wp2_with fail
            refine HCL.out.mono ?_
            rintro e z3 ⟨A8, n8, c8, rfl, hr, hb⟩
            have e1 : n8 = 0 := hr.len.symm
            subst e1
            have HF : Hid (Later z2 z3) := Lib.hid hb
            clear HCL hr
            replace HC0 := Lib.hid ((hb.block _ (Array.getElem?_eq_some_iff.1 HC0.out).1).trans HC0.out)
            replace HX := Lib.hid ((hb.block _ (Array.getElem?_eq_some_iff.1 HX.out).1).trans HX.out)
            replace HV0 := Lib.hid (GHold.later HV0.out hb)
            replace HL := Lib.hid (HL.out.later hb); replace HB := Lib.hid (HB.out.trans (hb.mono HB.out.size))
            clear hb
            go_wp2_with fail
            refine pieceEnd_normal ⟨HF.out, ?_⟩
            clear HF
            refine wpGrow_nil ?_
            repeat (go_big_quiet_step (fail))
            refine wpQuiet_nil ?_
            go_wp2_with fail
            exact ⟨⟨j + 1, by omega, by go_num, Lib.hid ⟨HL.out, HB.out, HC0.out, HV0.out⟩⟩, by simp [intOf]; omega⟩
          · have b1 : decide (q.s.time ≤ at9) = false := decide_eq_false ht
            clear ht
            have hs4 : ∀ x, (fut Later z0 x).cell? ⟨g, 4, none⟩ = some (.int .i64 q.s.kind) := fun x => (cell_of_row _ _ 4 _ _ _ (((fut_ok Later.refl z0 x).block _ (Array.getElem?_eq_some_iff.1 HX.out).1).trans HX.out)).trans rfl
            have hs0 : ∀ x, (fut Later z0 x).cell? ⟨g, 0, none⟩ = some (.int .i64 q.s.author) := fun x => (cell_of_row _ _ 0 _ _ _ (((fut_ok Later.refl z0 x).block _ (Array.getElem?_eq_some_iff.1 HX.out).1).trans HX.out)).trans rfl
            have hs3 : ∀ x, (fut Later z0 x).cell? ⟨g, 3, none⟩ = some (.int .i64 q.s.time) := fun x => (cell_of_row _ _ 3 _ _ _ (((fut_ok Later.refl z0 x).block _ (Array.getElem?_eq_some_iff.1 HX.out).1).trans HX.out)).trans rfl
            have hg2 : ∀ x, (fut Later z0 x).cell? ⟨g0, 2, none⟩ = some (.slice B0 m0 k0) := fun x => (cell_of_row _ _ 2 _ _ _ (((fut_ok Later.refl z0 x).block _ (Array.getElem?_eq_some_iff.1 HC0.out).1).trans HC0.out)).trans rfl
            have hl0 : ∀ x, (loadVar 35 ⟨g0, 0, none⟩).run Tryz.prog (fut Later z0 x) = .ok (.agg #[.int .i64 G.sz, .slice A0 n0 c0, .slice B0 m0 k0]) (fut Later z0 x) := fun x => run_loadVar_row _ g0 35 35 #[.int .i64 G.sz, .slice A0 n0 c0, .slice B0 m0 k0] (0, 0) _ (((fut_ok Later.refl z0 x).block _ (Array.getElem?_eq_some_iff.1 HC0.out).1).trans HC0.out) Tryz.underlying35 rfl gr_size
            refine wpGrow_cons ?_
            repeat (first  | go_big_quiet_step (fail))
            refine wpQuiet_nil ?_
            clear hs4 hs0 hs3 hg2 hl0
            have HHAS : Hid (Calls Tryz.prog 17 #[.slice B0 m0 k0, .int .i64 q.s.author] z0 (SaysL (.bool false) z0)) := Lib.hid (by
              have hv := HV0.out
              rw [HVE.out] at hv
              obtain ⟨_, _, _, _, _, _, he, _, hr⟩ := hv
              injection he with he
              simp only [Array.mk.injEq, List.cons.injEq, Value.slice.injEq] at he
              obtain ⟨-, -, ⟨rfl, rfl, rfl⟩, -⟩ := he
              have h1 := has_any11 B0 m0 k0 G.gn q.s.author z0 hr (by rw [← hr.len]; exact HGL.out)
              rw [HKJ.out, b1] at h1
              exact h1)
            go_wp2_with fail
            refine HHAS.out.mono ?_
            rintro e z1 ⟨rfl, hb⟩
            have HF : Hid (Later z0 z1) := Lib.hid hb
            clear HHAS
            replace HC0 := Lib.hid ((hb.block _ (Array.getElem?_eq_some_iff.1 HC0.out).1).trans HC0.out)
            replace HX := Lib.hid ((hb.block _ (Array.getElem?_eq_some_iff.1 HX.out).1).trans HX.out)
            replace HV0 := Lib.hid (GHold.later HV0.out hb)
            replace HL := Lib.hid (HL.out.later hb); replace HB := Lib.hid (HB.out.trans (hb.mono HB.out.size))
            clear hb
            go_wp2_with fail
            refine pieceEnd_normal ⟨HF.out, ?_⟩
            clear HF
            have hs4 : ∀ x, (fut Later z1 x).cell? ⟨g, 4, none⟩ = some (.int .i64 q.s.kind) := fun x => (cell_of_row _ _ 4 _ _ _ (((fut_ok Later.refl z1 x).block _ (Array.getElem?_eq_some_iff.1 HX.out).1).trans HX.out)).trans rfl
            have hs0 : ∀ x, (fut Later z1 x).cell? ⟨g, 0, none⟩ = some (.int .i64 q.s.author) := fun x => (cell_of_row _ _ 0 _ _ _ (((fut_ok Later.refl z1 x).block _ (Array.getElem?_eq_some_iff.1 HX.out).1).trans HX.out)).trans rfl
            have hs3 : ∀ x, (fut Later z1 x).cell? ⟨g, 3, none⟩ = some (.int .i64 q.s.time) := fun x => (cell_of_row _ _ 3 _ _ _ (((fut_ok Later.refl z1 x).block _ (Array.getElem?_eq_some_iff.1 HX.out).1).trans HX.out)).trans rfl
            have hg2 : ∀ x, (fut Later z1 x).cell? ⟨g0, 2, none⟩ = some (.slice B0 m0 k0) := fun x => (cell_of_row _ _ 2 _ _ _ (((fut_ok Later.refl z1 x).block _ (Array.getElem?_eq_some_iff.1 HC0.out).1).trans HC0.out)).trans rfl
            have hl0 : ∀ x, (loadVar 35 ⟨g0, 0, none⟩).run Tryz.prog (fut Later z1 x) = .ok (.agg #[.int .i64 G.sz, .slice A0 n0 c0, .slice B0 m0 k0]) (fut Later z1 x) := fun x => run_loadVar_row _ g0 35 35 #[.int .i64 G.sz, .slice A0 n0 c0, .slice B0 m0 k0] (0, 0) _ (((fut_ok Later.refl z1 x).block _ (Array.getElem?_eq_some_iff.1 HC0.out).1).trans HC0.out) Tryz.underlying35 rfl gr_size
            refine wpGrow_cons ?_
            repeat (first | (refine wpQuiet_load rfl 35 (.tmp 8) rfl ⟨g0, 0, none⟩ rfl (.agg #[.int .i64 G.sz, .slice A0 n0 c0, .slice B0 m0 k0]) (fun w' h => by obtain ⟨x, rfl⟩ := h; exact hl0 x) ?_; simp only [Act.put, List.setIfInBounds_toArray, List.set_cons_succ, List.set_cons_zero]) | go_big_quiet_step (fail))
            refine wpQuiet_nil ?_
            clear hs4 hs0 hs3 hg2 hl0
            go_wp2_with fail
            refine pieceEnd_normal ⟨Later.refl _, ?_⟩
            refine wpGrow_cons ?_
            repeat (go_big_quiet_step (fail))
            refine wpQuiet_nil ?_
            go_wp2_with fail
            refine pieceEnd_normal ⟨Later.refl _, ?_⟩
            refine wpGrow_nil ?_
            repeat (go_big_quiet_step (fail))
            refine wpQuiet_nil ?_
            go_wp2_with fail
            exact ⟨⟨j + 1, by omega, by go_num, Lib.hid ⟨HL.out, HB.out, HC0.out, HV0.out⟩⟩, by simp [intOf]; omega⟩
        · have b0 : (q.s.kind == 3) = false := by rw [beq_eq_false_iff_ne]; exact hk
          clear hk HKJ
          have hs4 : ∀ x, (fut Later z0 x).cell? ⟨g, 4, none⟩ = some (.int .i64 q.s.kind) := fun x => (cell_of_row _ _ 4 _ _ _ (((fut_ok Later.refl z0 x).block _ (Array.getElem?_eq_some_iff.1 HX.out).1).trans HX.out)).trans rfl
          have hs0 : ∀ x, (fut Later z0 x).cell? ⟨g, 0, none⟩ = some (.int .i64 q.s.author) := fun x => (cell_of_row _ _ 0 _ _ _ (((fut_ok Later.refl z0 x).block _ (Array.getElem?_eq_some_iff.1 HX.out).1).trans HX.out)).trans rfl
          have hs3 : ∀ x, (fut Later z0 x).cell? ⟨g, 3, none⟩ = some (.int .i64 q.s.time) := fun x => (cell_of_row _ _ 3 _ _ _ (((fut_ok Later.refl z0 x).block _ (Array.getElem?_eq_some_iff.1 HX.out).1).trans HX.out)).trans rfl
          have hg2 : ∀ x, (fut Later z0 x).cell? ⟨g0, 2, none⟩ = some (.slice B0 m0 k0) := fun x => (cell_of_row _ _ 2 _ _ _ (((fut_ok Later.refl z0 x).block _ (Array.getElem?_eq_some_iff.1 HC0.out).1).trans HC0.out)).trans rfl
          have hl0 : ∀ x, (loadVar 35 ⟨g0, 0, none⟩).run Tryz.prog (fut Later z0 x) = .ok (.agg #[.int .i64 G.sz, .slice A0 n0 c0, .slice B0 m0 k0]) (fut Later z0 x) := fun x => run_loadVar_row _ g0 35 35 #[.int .i64 G.sz, .slice A0 n0 c0, .slice B0 m0 k0] (0, 0) _ (((fut_ok Later.refl z0 x).block _ (Array.getElem?_eq_some_iff.1 HC0.out).1).trans HC0.out) Tryz.underlying35 rfl gr_size
          refine wpGrow_cons ?_
          repeat (first  | go_big_quiet_step (fail))
          refine wpQuiet_nil ?_
          clear hs4 hs0 hs3 hg2 hl0
          go_wp2_with fail
          refine pieceEnd_normal ⟨Later.refl _, ?_⟩
          have hs4 : ∀ x, (fut Later z0 x).cell? ⟨g, 4, none⟩ = some (.int .i64 q.s.kind) := fun x => (cell_of_row _ _ 4 _ _ _ (((fut_ok Later.refl z0 x).block _ (Array.getElem?_eq_some_iff.1 HX.out).1).trans HX.out)).trans rfl
          have hs0 : ∀ x, (fut Later z0 x).cell? ⟨g, 0, none⟩ = some (.int .i64 q.s.author) := fun x => (cell_of_row _ _ 0 _ _ _ (((fut_ok Later.refl z0 x).block _ (Array.getElem?_eq_some_iff.1 HX.out).1).trans HX.out)).trans rfl
          have hs3 : ∀ x, (fut Later z0 x).cell? ⟨g, 3, none⟩ = some (.int .i64 q.s.time) := fun x => (cell_of_row _ _ 3 _ _ _ (((fut_ok Later.refl z0 x).block _ (Array.getElem?_eq_some_iff.1 HX.out).1).trans HX.out)).trans rfl
          have hg2 : ∀ x, (fut Later z0 x).cell? ⟨g0, 2, none⟩ = some (.slice B0 m0 k0) := fun x => (cell_of_row _ _ 2 _ _ _ (((fut_ok Later.refl z0 x).block _ (Array.getElem?_eq_some_iff.1 HC0.out).1).trans HC0.out)).trans rfl
          have hl0 : ∀ x, (loadVar 35 ⟨g0, 0, none⟩).run Tryz.prog (fut Later z0 x) = .ok (.agg #[.int .i64 G.sz, .slice A0 n0 c0, .slice B0 m0 k0]) (fut Later z0 x) := fun x => run_loadVar_row _ g0 35 35 #[.int .i64 G.sz, .slice A0 n0 c0, .slice B0 m0 k0] (0, 0) _ (((fut_ok Later.refl z0 x).block _ (Array.getElem?_eq_some_iff.1 HC0.out).1).trans HC0.out) Tryz.underlying35 rfl gr_size
          refine wpGrow_cons ?_
          repeat (first  | go_big_quiet_step (fail))
          refine wpQuiet_nil ?_
          clear hs4 hs0 hs3 hg2 hl0
          go_wp2_with fail
          refine pieceEnd_normal ⟨Later.refl _, ?_⟩
          refine wpGrow_cons ?_
          repeat (go_big_quiet_step (fail))
          refine wpQuiet_nil ?_
          go_wp2_with fail
          refine pieceEnd_normal ⟨Later.refl _, ?_⟩
          refine wpGrow_nil ?_
          repeat (go_big_quiet_step (fail))
          refine wpQuiet_nil ?_
          go_wp2_with fail
          exact ⟨⟨j + 1, by omega, by go_num, Lib.hid ⟨HL.out, HB.out, HC0.out, HV0.out⟩⟩, by simp [intOf]; omega⟩
      · have hlt2 : ¬ (j : Int) < (n : Int) := by omega
        go_wp2_with fail
        refine (HAW.out wr).mono ?_
        rintro e wa ⟨rfl, hb⟩
        replace HC0 := Lib.hid ((hb.block _ (Array.getElem?_eq_some_iff.1 HC0.out).1).trans HC0.out)
        replace HL := Lib.hid (HL.out.later hb); replace HB := Lib.hid (HB.out.trans (hb.mono HB.out.size))
        clear hb
        have hx0 : wa.cell? ⟨g0, 0, none⟩ = some (.int .i64 64) := by rw [← HG64.out]; exact (cell_of_row _ _ 0 _ _ _ HC0.out).trans rfl
        go_wp2_with fail
        go_ret
        exact ⟨rfl, HB.out⟩
  · have gd : decide (tn ≤ 400) = false := decide_eq_false hn
    go_wp2_with fail
    clear gd
    refine (HAW.out w).mono ?_
    rintro e w1 ⟨rfl, hb⟩
    have HB := Lib.hid hb; clear hb
    go_wp2_with fail
    go_ret
    exact ⟨rfl, HB.out⟩
theorem ggone2_any (H : GraphC ∧ AtC) (TA : Option Addr) (tn tc : Nat) (t : List Int) (tm : Int) (w : World) (ht : IRow w TA tn tc t) : Calls Tryz.prog 4 #[.slice TA tn tc, .int .i64 tm] w (SaysL (.bool true) w) := ggone_law H.1 H.2 TA tn tc t tm w ht
end Go.Proofs.YtnmpbjgccbnomaaGreat
/-
  PROVED: for every input the law GraphGone returns true and leaves its arguments as they were. Conditions: none but the row's own.
-/
namespace Go.Proofs.YtnmpbjgccbnomaaGreat.graphGone
open Go.ChangeShapes Go.WideShapes Go.ChangeAt Go.RowKit
theorem own : ownKnob Tryz.prog.godebug = none := by kernel_rfl
theorem laidOut : laidOutB Tryz.prog = true := by kernel_rfl
theorem cellsI : Tryz.prog.cellsOf 3 = 1 := by kernel_rfl
set_option maxRecDepth 100000 in
theorem lifted (H11 : GraphC ∧ AtC) (os : Os) (started : os.Started) (H : Type) (enc : TypeId × Value → H) :
    ReturnsInHanded {} Tryz.checked os 4 .any (Rows.graphGoneSpec.pre6 enc Tryz.prog Tryz.f4 Rows.graphGoneRow.domain false) (Rows.graphGoneSpec.post enc Tryz.prog Tryz.f4 false true false false) := by
  refine returnsInHanded_of_change (C := Tryz.checked) own started (by kernel_rfl) Tryz.func4
    (ChangeSpec.witness6 (enc := enc) (C := Tryz.checked) false ⟨#[], #[.slice none 0 0, .int .i64 0], []⟩ 8 (by kernel_rfl) (by kernel_rfl) (by kernel_rfl) (by kernel_rfl)) ?_
  intro W base args ds gs before hval hW _ _
  have hW' := hW
  obtain ⟨p, q, hA, hV, rfl, _, _⟩ := hW
  rw [Tryz.params4] at hA hval
  obtain ⟨v0, v1, d0, d1, p0, p1, rfl, rfl, rfl, h0, h1⟩ := trodAll_two hA
  obtain ⟨rfl, rfl⟩ := trodVars_none hV
  obtain ⟨A, n, c, l, rfl, hr, _⟩ := open_i64s Tryz.underlying22 Tryz.underlying3 cellsI (hval 0 22 v0 rfl rfl) h0
  obtain ⟨a1, rfl, rfl, rfl, w1⟩ := open_int Tryz.underlying3 (hval 1 3 v1 rfl rfl) h1
  refine (ggone2_any H11 A n c l a1 W hr).mono fun e W' ⟨he, hb⟩ => ?_
  subst he
  exact law_post laidOut (by kernel_rfl) Tryz.underlying4 (by kernel_rfl) rfl hW' rfl hb
theorem over (H11 : GraphC ∧ AtC) : Rows.GraphGoneSaid :=
  OpenClaim.holds_of_wide 4 Tryz.f4 rfl rfl rfl rfl rfl rfl rfl ⟨rfl, rfl, rfl, rfl, rfl⟩ rfl rfl rfl rfl rfl (by kernel_rfl) Tryz.func4 (by kernel_rfl)
    (of_decide_eq_true (by kernel_rfl)) (by unfold Func.isWrapper; first | (rw [if_pos (by decide +kernel)]; kernel_rfl) | (rw [if_neg (by decide +kernel)]; exact ⟨rfl, rfl⟩))
    (fun os started H enc _ => lifted H11 os started H enc)
end Go.Proofs.YtnmpbjgccbnomaaGreat.graphGone
