import Derived.Test.YtikmffdmgnjpbaaPackAZ
import Derived.Test.YtikmffdmgnjpbaaPackAQ
/- The walk of the law DistanceWays. -/
namespace Go.Proofs.Ytikmffdmgnjpbaa
open Go.RowKit
/-- .. and the seeds, and their distances. -/
structure LW (w : World) (D P g0 : Nat) (t : List Int) (G : Gr) (A : Option Addr) (n c : Nat) (B : Option Addr) (m k : Nat) (AS : Option Addr) (ns cs : Nat) (S : List Int) (Al : Option Addr) (nl cl : Nat) (AD : List Int) (z : World) : Prop where
  ds : DS w D P g0 t G A n c B m k z
  sd : IRow z AS ns cs S
  dl : IRow z Al nl cl AD
theorem LW.later {w : World} {D P g0 : Nat} {t : List Int} {G : Gr} {A : Option Addr} {n c : Nat} {B : Option Addr} {m k : Nat} {AS : Option Addr} {ns cs : Nat} {S : List Int} {Al : Option Addr} {nl cl : Nat} {AD : List Int} {z z' : World} (h : LW w D P g0 t G A n c B m k AS ns cs S Al nl cl AD z) (hb : Below z.heap.size z z') : LW w D P g0 t G A n c B m k AS ns cs S Al nl cl AD z' :=
  ⟨h.ds.later hb, h.sd.later hb, h.dl.later hb⟩
/-- What a way is. -/
theorem way_facts {G : Gr} (hgd : Good11 G) (S : List Int) {key : Int} (h0 : 0 ≤ key) (h1 : key < G.sz) :
    (0 ≤ dAt (allD G S) key → (wayD G S key).2 = true ∧ ((wayD G S key).1.length : Int) = dAt (allD G S) key + 1 ∧ (wayD G S key).1.getD (dAt (allD G S) key).toNat 0 = key ∧ hasI S ((wayD G S key).1.getD 0 0) = true ∧
      ∀ i, 0 < i → i < (wayD G S key).1.length → hasI (outS G.es ((wayD G S key).1.getD (i - 1) 0)) ((wayD G S key).1.getD i 0) = true) ∧
    (¬ 0 ≤ dAt (allD G S) key → wayD G S key = ([], false)) := by
  have hlo := hgd.lo
  have hd := allD_dist hgd S
  have hz := good_inZ hgd
  constructor
  · intro hp
    have hw := way_up hd hz h0 (by omega) hp ((dAt (allD G S) key).toNat + 1) (by omega)
    have he := way_ends hd (n := (dAt (allD G S) key).toNat) (by omega) hw
    have e : wayD G S key = (wayUp (allD G S) G.es (marked (allD G S) G.es G.sz.toNat key) G.sz.toNat ((dAt (allD G S) key).toNat + 1), true) := by
      unfold wayD
      rw [if_pos ⟨h0, h1, hp⟩]
    rw [e]
    refine ⟨rfl, ?_, he.1, ?_, ?_⟩
    · show ((wayUp _ _ _ _ _).length : Int) = _
      rw [hw.len]
      omega
    · have h2 := he.2
      unfold seedB at h2
      rw [Bool.and_eq_true] at h2
      exact h2.1
    · intro i hi hl
      refine hw.edge i hi ?_
      have h3 : (wayUp (allD G S) G.es (marked (allD G S) G.es G.sz.toNat key) G.sz.toNat ((dAt (allD G S) key).toNat + 1)).length = (dAt (allD G S) key).toNat + 1 := hw.len
      rw [← h3]
      exact hl
  · intro hp
    unfold wayD
    rw [if_neg (fun h => hp h.2.2)]
set_option maxRecDepth 100000 in
set_option maxHeartbeats 40000000 in
theorem dways_any (TA : Option Addr) (tn tc : Nat) (t : List Int) (w : World) (ht : IRow w TA tn tc t) : Calls Try.prog 4 #[.slice TA tn tc] w (SaysL (.bool true) w) := by
  have HAW : Hid (∀ y, Calls Try.prog 8 #[] y (SaysL (.bool true) y)) := Lib.hid fun y => awake12_any y
  have HT := Lib.hid ht; clear ht
  go_enter Try.func4, Try.ntmps4
  go_wp2_with fail
  refine (light_any TA tn tc w).mono ?_
  rintro e w0 ⟨rfl, rfl⟩
  by_cases hn : tn ≤ 400
  · have gd0 : decide (tn ≤ 400) = true := decide_eq_true hn
    go_wp2_with fail
    clear gd0
    refine (roll_any w.heap.size TA tn tc t w HT.out (by omega) (Nat.le_refl _) (fun ad e h0 => Row.lt HT.out (by decide) ad e h0)).mono ?_
    rintro e w1 ⟨rfl, hd, hb⟩
    obtain ⟨D, hD⟩ : ∃ D, D = w.heap.size := ⟨_, rfl⟩
    have HD : Hid (∃ kd, DiceAt w1 w.heap.size D t kd) := Lib.hid ⟨0, by rw [hD]; exact hd⟩
    have HB := Lib.hid hb
    have HDD : Hid (w.heap.size = D) := Lib.hid hD.symm
    rw [← hD]
    clear hd hb hD HT
    go_wp2_with fail
    refine (ggraph_g w.heap.size D t w1 HD.out).mono ?_
    rintro e w2 ⟨v0, G, rfl, ho, hgd, hsz, hone, hg⟩
    have HDP : Hid (D < w1.heap.size) := Lib.hid (by obtain ⟨kd, hk⟩ := HD.out; exact hk.lt)
    have HGD := Lib.hid hgd; have hsz2 := hsz; have hs64 := hgd.hi
    obtain ⟨A, n, c, B, m, k, hve, -, -⟩ := ho.hold
    subst hve
    have hb2 := one_new w2 (.cells #[.int .i64 G.sz, .slice A n c, .slice B m k] 29)
    have HDS : Hid (DS w D w1.heap.size w2.heap.size t G A n c B m k (w2.alloc (.cells #[.int .i64 G.sz, .slice A n c, .slice B m k] 29))) := Lib.hid
      ⟨by obtain ⟨kd, hk⟩ := hg.1; exact ⟨kd, hk.later hb2⟩, ho.later hb2, (HB.out.trans (hg.2.below (by have := HDD.out; omega) HB.out.size)).trans (hb2.mono (Nat.le_trans HB.out.size hg.2.size)), heap_alloc_new _ _, by have := HDD.out; omega, HDP.out, by have := HDP.out; have := hg.2.size; omega⟩
    clear hgd hsz hone hg ho hb2 HD HB
    go_upto_region 5 with (refine wpList_store_new rfl 29 (.tmp 4) (.tmp 20) rfl 29 _ #[.int .i64 G.sz, .slice A n c, .slice B m k] rfl rfl gr_size rfl (by simp [Value.oneCell']) ?_)
    generalize w2.alloc (.cells #[.int .i64 G.sz, .slice A n c, .slice B m k] 29) = y0 at *
    generalize w2.heap.size = g0 at *
    generalize w1.heap.size = P at *
    try dsimp only [Act.put]
    clear HDP
    obtain ⟨sz, hszn⟩ : ∃ sz : Nat, G.sz = (sz : Int) := ⟨G.sz.toNat, by omega⟩
    have HSN := Lib.hid hszn
    have hsn64 : sz ≤ 64 := by omega
    have hsn2 : 2 ≤ sz := by omega
    clear hszn hsz2 hs64
    have hz0 : y0.cell? ⟨g0, 0, none⟩ = some (.int .i64 (sz : Int)) := by rw [← HSN.out]; exact (cell_of_row _ _ 0 _ _ _ HDS.out.box).trans rfl
    go_wp2_with fail
    clear hz0
    refine (some_g12 w.heap.size D t sz y0 HDS.out.dice (by omega)).mono ?_
    rintro e y1 ⟨v1, S, rfl, ho, hsl, hg⟩
    obtain ⟨AS, cs, rfl, hr⟩ := Row.of_own ho
    have HR1 : Hid (IRow y1 AS S.length cs S) := Lib.hid hr
    replace HDS := Lib.hid (HDS.out.gave hg)
    have hsl64 : S.length ≤ 64 := by omega
    clear hg hr ho hsl
    have HBX : Hid (y1.heap[g0]? = some (.cells #[.int .i64 G.sz, .slice A n c, .slice B m k] 29 (0, 0))) := Lib.hid HDS.out.box
    go_wp2_with (refine wpList_load_row rfl 29 (.tmp 4) rfl g0 rfl 29 #[.int .i64 G.sz, .slice A n c, .slice B m k] (0, 0) _ HBX.out Try.underlying29 rfl gr_size ?_)
    refine (all_any G _ AS S.length cs S y1 HDS.out.hold HGD.out HR1.out (by omega)).mono ?_
    rintro e y2 ⟨gd, rfl, hd, -, hb⟩
    have HAD := Lib.hid (allD_dist HGD.out S)
    have HWF : Hid (∀ key : Int, 0 ≤ key → key < (sz : Int) → _) := Lib.hid fun key h0 h1 => way_facts HGD.out S h0 (by rw [HSN.out]; exact h1)
    have HWC : Hid (∀ z key, GHold z G (.agg #[.int .i64 G.sz, .slice A n c, .slice B m k]) → IRow z AS S.length cs S → Calls Try.prog 16 #[.agg #[.int .i64 G.sz, .slice A n c, .slice B m k], .slice AS S.length cs, .int .i64 key] z (GivesIB z (wayD G S key))) := Lib.hid fun z key h1 h2 => way_any G _ AS S.length cs S key z h1 HGD.out h2 (by omega)
    have HIZ := Lib.hid (good_inZ HGD.out)
    have hsz : G.sz.toNat = sz := by have := HSN.out; omega
    rw [hsz] at HAD HIZ ⊢
    clear hsz
    have HDL : Hid ((allD G S).length = sz) := Lib.hid HAD.out.len
    have HL : Hid (LW w D P g0 t G A n c B m k AS S.length cs S (some ⟨gd, 0, none⟩) sz sz (allD G S) y2) := Lib.hid ⟨HDS.out.later hb, HR1.out.later hb, hd.row' HAD.out.len⟩
    have HWL : Hid (∀ key, (wayD G S key).1.length ≤ 100) := Lib.hid fun key => wayD_len G HGD.out S key
    generalize allD G S = AD at *
    generalize wayD G S = WD at *
    clear hd hb HBX HDS HR1
    have HNL : Hid (G.es.length = n) := Lib.hid (ERow.len HL.out.ds.rows.1)
    have hnn : n ≤ 500 := by rw [← HNL.out]; exact HGD.out.len
    have hz0 : y2.cell? ⟨g0, 0, none⟩ = some (.int .i64 (sz : Int)) := by rw [← HSN.out]; exact (cell_of_row _ _ 0 _ _ _ HL.out.ds.box).trans rfl
    go_wp2_with fail
    clear hz0
    go_loopw [7] (fun i wr => ∃ j : Nat, j ≤ n ∧ i = .int .i64 j ∧ Hid (LW w D P g0 t G A n c B m k AS S.length cs S (some ⟨gd, 0, none⟩) sz sz AD wr)) (fun i _ => n - (intOf i).toNat)
    case atStart => exact ⟨0, Nat.zero_le _, rfl, HL⟩
    case round =>
      clear HL
      obtain ⟨j, hj, rfl, HL⟩ := hrel
      have hg1 : wr.cell? ⟨g0, 1, none⟩ = some (.slice A n c) := (cell_of_row _ _ 1 _ _ _ HL.out.ds.box).trans rfl
      by_cases hlt : j < n
      · have hlt2 : (j : Int) < (n : Int) := by omega
        have hje : j < G.es.length := by rw [HNL.out]; exact hlt
        obtain ⟨b, off, hA, hc⟩ := GRow.cells Edg.len (by decide) HL.out.ds.rows.1 noEdg j hlt
        subst hA
        have hpm : G.es.getD j noEdg ∈ G.es := by rw [List.getD_eq_getElem?_getD, List.getElem?_eq_getElem hje]; exact List.getElem_mem hje
        have hin := HIZ.out _ hpm
        have HED := Lib.hid (HAD.out.edge _ hpm hin.1 hin.2.1 hin.2.2.1 hin.2.2.2)
        clear hpm hje
        generalize G.es.getD j noEdg = pe at *
        have HC : Hid (∀ q, q < pe.arr.size → wr.cell? ⟨b, off + j * 3 + q, none⟩ = pe.arr[q]?) := Lib.hid fun q hq => (hc q hq).trans (by rw [← Edg.list, Array.getElem?_toList])
        clear hc
        go_upto_region 13 with (first | (refine wpList_load_cells rfl 38 (.tmp 43) rfl b (off + j * 3) rfl pe.arr _ Try.underlying38 rfl pe.info HC.out ?_) | (refine wpList_store_new rfl 38 (.tmp 8) (.tmp 44) rfl 38 _ pe.arr rfl rfl pe.info rfl pe.one ?_))
        have HN3 := Lib.hid (one_new wr (.cells pe.arr 38))
        have HYC : Hid ((wr.alloc (.cells pe.arr 38)).heap[wr.heap.size]? = some (.cells pe.arr 38 (0, 0))) := Lib.hid (heap_alloc_new _ _)
        have HL3 := Lib.hid (HL.out.later HN3.out)
        clear HL HC HN3 hg1
        generalize wr.alloc (.cells pe.arr 38) = x2 at *
        generalize wr.heap.size = g4 at *
        try dsimp only [Act.put]
        refine wp_region_grow (by kernel_rfl) Later Later.refl (fun _ _ _ => Later.trans) [0, 1, 2, 3, 4, 5, 6, 7, 8, 9, 10, 11, 12, 13, 14, 15, 16, 17, 18, 19, 20, 21, 22, 23, 24, 25, 26, 27] [] (by kernel_rfl) (by kernel_rfl) (by kernel_rfl) ?_
        simp only [List.map_cons, List.map_nil, pick, List.getD_cons_zero, List.getD_cons_succ]
        replace HL3 := Lib.hid (HL3.out.later (Below.refl _ _).drew)
        replace HYC : Hid (x2.drew.heap[g4]? = _) := HYC
        generalize x2.drew = z0 at *
        obtain ⟨nf, hnf⟩ : ∃ nf : Nat, pe.fr = (nf : Int) := ⟨pe.fr.toNat, by have := hin.1; omega⟩
        obtain ⟨nt, hnt⟩ : ∃ nt : Nat, pe.tu = (nt : Int) := ⟨pe.tu.toNat, by have := hin.2.2.1; omega⟩
        have hfz : (nf : Int) < (sz : Int) := by rw [← hnf]; exact hin.2.1
        have htz : (nt : Int) < (sz : Int) := by rw [← hnt]; exact hin.2.2.2
        have hfz2 : nf < sz := by omega
        have htz2 : nt < sz := by omega
        obtain ⟨hy0, hy1, -⟩ := edg_futs (F := Later) Later.refl (W := z0) (fun _ h => h.block _ (Array.getElem?_eq_some_iff.1 HYC.out).1) HYC.out
        rw [hnf] at hy0 HED
        rw [hnt] at hy1 HED
        have hfc := irow_fut HL3.out.dl nf hfz2
        have htc := irow_fut HL3.out.dl nt htz2
        rw [Nat.zero_add, dAt_cell (by rw [HDL.out]; exact hfz2)] at hfc
        rw [Nat.zero_add, dAt_cell (by rw [HDL.out]; exact htz2)] at htc
        have HDB := Lib.hid (HAD.out.lt (k := (nf : Int)) (by omega) (by omega))
        have HLO := Lib.hid (HAD.out.low (nf : Int) (by omega) (by omega))
        clear hnf hnt hin HYC
        generalize dAt AD (nf : Int) = df at *
        generalize dAt AD (nt : Int) = dt at *
        by_cases hdf : 0 ≤ df
        · have hd2 := HED.out hdf
          have hdb := HDB.out
          have b0 : decide (df ≥ 0) = true := decide_eq_true hdf
          have b0' : decide (0 ≤ df) = true := b0
          have b1 : decide (dt < 0) = false := decide_eq_false (by omega)
          have b2 : decide (dt > df + 1) = false := decide_eq_false (by omega)
          have b2' : decide (df + 1 < dt) = false := b2
          have hw64 : IntKind.i64.wrap (df + 1) = df + 1 := by rw [IntKind.wrap_i64]; omega
          have hw65 : RowKit.wrap64 (df + 1) = df + 1 := IntWalk.wrap64_in _ (by omega)
          clear hdf hd2 hdb
          refine wpGrow_nil ?_
          repeat (go_big_quiet_step (fail))
          refine wpQuiet_nil ?_
          clear hy0 hy1 hfc htc
          go_wp2_with fail
          exact ⟨⟨j + 1, hlt, by go_num, HL3⟩, by simp [intOf]; omega⟩
        · have b0 : decide (df ≥ 0) = false := decide_eq_false hdf
          have b0' : decide (0 ≤ df) = false := b0
          clear hdf
          refine wpGrow_nil ?_
          repeat (go_big_quiet_step (fail))
          refine wpQuiet_nil ?_
          clear hy0 hy1 hfc htc
          go_wp2_with fail
          exact ⟨⟨j + 1, hlt, by go_num, HL3⟩, by simp [intOf]; omega⟩
      · have hlt2 : ¬ (j : Int) < (n : Int) := by omega
        go_wp2_with fail
        clear hg1
        go_loopw [9] (fun i wr => ∃ q : Nat, q ≤ sz ∧ i = .int .i64 q ∧ Hid (LW w D P g0 t G A n c B m k AS S.length cs S (some ⟨gd, 0, none⟩) sz sz AD wr)) (fun i _ => sz - (intOf i).toNat)
        case atStart => exact ⟨0, Nat.zero_le _, rfl, HL⟩
        case round =>
          clear HL
          obtain ⟨q, hq, rfl, HL⟩ := hrel
          have hg0 : wr.cell? ⟨g0, 0, none⟩ = some (.int .i64 (sz : Int)) := by rw [← HSN.out]; exact (cell_of_row _ _ 0 _ _ _ HL.out.ds.box).trans rfl
          by_cases hlq : q < sz
          · have hlq2 : (q : Int) < (sz : Int) := by omega
            have HC := Lib.hid (HWC.out wr (q : Int) HL.out.ds.hold HL.out.sd)
            have HBX : Hid (wr.heap[g0]? = some (.cells #[.int .i64 G.sz, .slice A n c, .slice B m k] 29 (0, 0))) := Lib.hid HL.out.ds.box
            have HFA := Lib.hid (HWF.out (q : Int) (by omega) hlq2)
            have HWLq := Lib.hid (HWL.out (q : Int))
            go_wp2_with (refine wpList_load_row rfl 29 (.tmp 4) rfl g0 rfl 29 #[.int .i64 G.sz, .slice A n c, .slice B m k] (0, 0) _ HBX.out Try.underlying29 rfl gr_size ?_)
            clear hg0
            refine HC.out.mono ?_
            rintro e z1 ⟨AW, nw, cw, rfl, hr, hb⟩
            have HR := Lib.hid hr
            replace HL := Lib.hid (HL.out.later hb)
            have HNW := Lib.hid hr.len
            clear hr hb HC HBX
            generalize WD (q : Int) = R at *
            have hdc : z1.cell? ⟨gd, 0 + q, none⟩ = some (.int .i64 (AD.getD q 0)) := by
              obtain ⟨b2, off2, hA2, hc2⟩ := IRow.cell HL.out.dl q hlq
              injection hA2 with hA2
              injection hA2 with i1 i2
              subst i1 i2
              exact hc2
            rw [Nat.zero_add, dAt_cell (by rw [HDL.out]; exact hlq)] at hdc
            have HDB := Lib.hid (HAD.out.lt (k := (q : Int)) (by omega) (by omega))
            generalize dAt AD (q : Int) = dv at *
            obtain ⟨W, okv⟩ := R
            simp only at HR HNW HFA HWLq ⊢
            by_cases hdv : 0 ≤ dv
            · obtain ⟨f1, f2, f3, f4, f5⟩ := HFA.out.1 hdv
              obtain ⟨N, hN⟩ : ∃ N : Nat, dv = (N : Int) := ⟨dv.toNat, by omega⟩
              subst hN
              subst f1
              have hnw : nw = N + 1 := by have := HNW.out; omega
              subst hnw
              rw [Int.toNat_natCast] at f3
              have HF3 := Lib.hid f3
              have HF4 := Lib.hid f4
              have HF5 := Lib.hid f5
              have hN100 : N ≤ 100 := by have := HWLq.out; have := HNW.out; omega
              clear f2 f3 f4 f5 HFA HDB
              obtain ⟨bw, ow, hAw, hcN⟩ := IRow.cell HR.out N (Nat.lt_succ_self N)
              subst hAw
              obtain ⟨bw2, ow2, hAw, hc0⟩ := IRow.cell HR.out 0 (Nat.succ_pos N)
              injection hAw with hAw
              injection hAw with i1 i2
              subst i1 i2
              rw [HF3.out] at hcN
              rw [Nat.add_zero] at hc0
              have b0 : decide ((N : Int) ≥ 0) = true := decide_eq_true hdv
              have b0' : decide (0 ≤ (N : Int)) = true := b0
              have b1 : (((q : Int)) != ((q : Int))) = false := by simp
              have b2 : (((N : Int) + 1) != ((N : Int) + 1)) = false := by simp
              have hbl : (N : Int) < (N : Int) + 1 := by omega
              have h0l : (0 : Int) < (N : Int) + 1 := by omega
              have h0n : 0 < N + 1 := Nat.succ_pos N
              have HHS := Lib.hid (has_any11 AS S.length cs S (W.getD 0 0) z1 HL.out.sd (by omega))
              rw [HF4.out] at HHS
              generalize W.getD 0 0 = w00 at *
              clear hdv
              go_wp2_with fail
              try go_simp
              try go_wp2_with fail
              refine HHS.out.mono ?_
              rintro e z2 ⟨rfl, hb⟩
              replace HL := Lib.hid (HL.out.later hb)
              replace HR := Lib.hid (HR.out.later hb)
              clear hb HHS hcN hc0 hdc
              go_wp2_with fail
              go_loopw [12] (fun i wr => ∃ r : Nat, r ≤ N ∧ i = .int .i64 ((r : Int) + 1) ∧ Hid (LW w D P g0 t G A n c B m k AS S.length cs S (some ⟨gd, 0, none⟩) sz sz AD wr ∧ IRow wr (some ⟨bw, ow, none⟩) (N + 1) cw W)) (fun i _ => N + 1 - (intOf i).toNat)
              case atStart => exact ⟨0, Nat.zero_le _, rfl, Lib.hid ⟨HL.out, HR.out⟩⟩
              case round =>
                clear HL HR
                obtain ⟨r, hr, rfl, HQ⟩ := hrel
                have HL := Lib.hid HQ.out.1
                have HR := Lib.hid HQ.out.2
                clear HQ
                by_cases hlr : r < N
                · have hlr2 : (r : Int) + 1 < (N : Int) + 1 := by omega
                  have HHE := Lib.hid (HF5.out (r + 1) (Nat.succ_pos r) (by rw [HNW.out]; omega))
                  rw [Nat.add_sub_cancel] at HHE
                  go_upto_region 24 with fail
                  refine wp_region_grow (by kernel_rfl) Later Later.refl (fun _ _ _ => Later.trans) [12] [([0, 1, 2, 3, 4, 5, 7, 8, 9, 10], 6), ([], 11)] (by kernel_rfl) (by kernel_rfl) (by kernel_rfl) ?_
                  simp only [List.map_cons, List.map_nil, pick, List.getD_cons_zero, List.getD_cons_succ]
                  replace HL := Lib.hid (HL.out.later (Below.refl _ _).drew)
                  replace HR := Lib.hid (HR.out.later (Later.drew wr))
                  generalize wr.drew = z3 at *
                  have hfg : ∀ x, (loadVar 29 ⟨g0, 0, none⟩).run Try.prog (fut Later z3 x) = .ok (.agg #[.int .i64 G.sz, .slice A n c, .slice B m k]) (fut Later z3 x) := fun x => run_loadVar_row _ g0 29 29 #[.int .i64 G.sz, .slice A n c, .slice B m k] (0, 0) _ (((fut_ok Later.refl z3 x).block g0 (Array.getElem?_eq_some_iff.1 HL.out.ds.box).1).trans HL.out.ds.box) Try.underlying29 rfl gr_size
                  have hf1 := irow_fut HR.out r (by omega)
                  have hf2 := irow_fut HR.out (r + 1) (by omega)
                  have e2 : ((r : Int) + 1).toNat = r + 1 := by omega
                  have e3 : (0 : Int) ≤ (r : Int) + 1 := by omega
                  have e4 : (r : Int) < (N : Int) + 1 := by omega
                  have hr100 : r ≤ 100 := by omega
                  have HOUT := Lib.hid (out_any11 A n c G.es G.sz B m k (W.getD r 0) z3 HL.out.ds.rows.1 (by omega))
                  have HOSL : Hid ((outS G.es (W.getD r 0)).length ≤ 100000) := Lib.hid (by
                    have h := outS_len G.es (W.getD r 0) G.es.length (Nat.le_refl _)
                    rw [List.take_length] at h
                    have := HNL.out
                    omega)
                  generalize outS G.es (W.getD r 0) = OS at *
                  generalize W.getD r 0 = wa at *
                  generalize W.getD (r + 1) 0 = wb at *
                  refine wpGrow_cons ?_
                  repeat (first | (refine wpQuiet_load rfl 29 (.tmp 4) rfl ⟨g0, 0, none⟩ rfl (.agg #[.int .i64 G.sz, .slice A n c, .slice B m k]) (fun w' h => by obtain ⟨x, rfl⟩ := h; exact hfg x) ?_; simp only [Act.put, List.setIfInBounds_toArray, List.set_cons_succ, List.set_cons_zero]) | go_big_quiet_step (fail))
                  refine wpQuiet_nil ?_
                  clear hfg hf1 hf2
                  go_wp2_with fail
                  refine HOUT.out.mono ?_
                  rintro e z4 ⟨A9, n9, c9, rfl, hr9, hb9⟩
                  have HF1 := Lib.hid hb9
                  have HHS2 := Lib.hid (has_any11 A9 n9 c9 OS wb z4 hr9 (by rw [← hr9.len]; exact HOSL.out))
                  rw [HHE.out] at HHS2
                  replace HL := Lib.hid (HL.out.later hb9)
                  replace HR := Lib.hid (HR.out.later hb9)
                  clear hr9 hb9 HOUT
                  go_wp2_with fail
                  refine pieceEnd_normal ⟨HF1.out, ?_⟩
                  clear HF1
                  refine wpGrow_cons ?_
                  refine wpQuiet_nil ?_
                  go_wp2_with fail
                  refine HHS2.out.mono ?_
                  rintro e z5 ⟨rfl, hb9⟩
                  have HF1 := Lib.hid hb9
                  replace HL := Lib.hid (HL.out.later hb9)
                  replace HR := Lib.hid (HR.out.later hb9)
                  clear hb9 HHS2
                  go_wp2_with fail
                  refine pieceEnd_normal ⟨HF1.out, ?_⟩
                  clear HF1
                  refine wpGrow_nil ?_
                  repeat (go_big_quiet_step (fail))
                  refine wpQuiet_nil ?_
                  go_wp2_with fail
                  exact ⟨⟨r + 1, hlr, by first | go_num | (congr 1; omega), Lib.hid ⟨HL.out, HR.out⟩⟩, by simp [intOf]; omega⟩
                · have hlr2 : ¬ (r : Int) + 1 < (N : Int) + 1 := by omega
                  go_wp2_with fail
                  exact ⟨⟨q + 1, hlq, by go_num, HL⟩, by simp [intOf]; omega⟩
            · have HRE := Lib.hid (HFA.out.2 (by omega))
              have e1 := congrArg Prod.fst HRE.out
              have e2 := congrArg Prod.snd HRE.out
              simp only at e1 e2
              subst e1 e2
              have hnw : nw = 0 := HNW.out.symm
              subst hnw
              have b0 : decide (dv ≥ 0) = false := decide_eq_false hdv
              have b0' : decide (0 ≤ dv) = false := b0
              clear hdv HFA HRE HDB
              go_wp2_with fail
              clear hdc
              go_loopw [12] (fun i wr => i = .int .i64 1 ∧ Hid (LW w D P g0 t G A n c B m k AS S.length cs S (some ⟨gd, 0, none⟩) sz sz AD wr)) (fun _ _ => 0)
              case atStart => exact ⟨rfl, HL⟩
              case round =>
                clear HL
                obtain ⟨rfl, HL⟩ := hrel
                go_wp2_with fail
                exact ⟨⟨q + 1, hlq, by go_num, HL⟩, by simp [intOf]; omega⟩
          · have hlq2 : ¬ (q : Int) < (sz : Int) := by omega
            go_wp2_with fail
            clear hg0
            refine (HAW.out wr).mono ?_
            rintro e z1 ⟨rfl, hb⟩
            replace HL := Lib.hid (HL.out.later hb)
            clear hb
            go_wp2_with fail
            go_ret
            exact ⟨rfl, HL.out.ds.base⟩
  · have gd0 : decide (tn ≤ 400) = false := decide_eq_false hn
    go_wp2_with fail
    clear gd0
    refine (HAW.out w).mono ?_
    rintro e w1 ⟨rfl, hb⟩
    have HB := Lib.hid hb; clear hb
    go_wp2_with fail
    go_ret
    exact ⟨rfl, HB.out⟩
end Go.Proofs.Ytikmffdmgnjpbaa
