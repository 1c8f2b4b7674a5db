import Derived.Test.YtikmffdmgnjpbaaPackAR
import Derived.Test.YtikmffdmgnjpbaaDxWayP
import Derived.Test.YtikmffdmgnjpbaaPackAJ
/- The walk of the reference's Way. -/
namespace Go.Proofs.Ytikmffdmgnjpbaa
open Go.RowKit
def boolsV (l : List Bool) : List Value := l.map Value.bool
theorem boolsV_len (l : List Bool) : (boolsV l).length = l.length := by unfold boolsV; rw [List.length_map]
theorem bool_info : (Try.prog.info? 4).map (fun i => (i.zero, i.size, i.bytes)) = some (some (.bool false), 1, 1) := by kernel_rfl
theorem own_b {w : World} {B g n cap : Nat} {xs : List Bool} (h : w.ownsRow B 4 1 (.slice (some ⟨g, 0, none⟩) n cap) n (boolsV xs)) {i : Nat} (hi : i < n) : w.cell? ⟨g, i, none⟩ = some (.bool (onAt xs (i : Int))) ∧ w.frozen? ⟨g, i, none⟩ = false := by
  have hl : xs.length = n := by have := h.1; rw [boolsV_len, Nat.mul_one] at this; exact this
  refine ⟨?_, h.frozenAt i⟩
  rw [h.cellAt i (by omega)]
  unfold boolsV onAt
  rw [List.getElem?_map, List.getElem?_eq_getElem (by omega), Int.toNat_natCast, List.getD_eq_getElem?_getD, List.getElem?_eq_getElem (by omega)]
  rfl
theorem own_setb {w : World} {B g n cap : Nat} {xs : List Bool} (h : w.ownsRow B 4 1 (.slice (some ⟨g, 0, none⟩) n cap) n (boolsV xs)) (i : Nat) (u : Bool) : (w.setCell ⟨g, i, none⟩ (.bool u)).ownsRow B 4 1 (.slice (some ⟨g, 0, none⟩) n cap) n (boolsV (xs.set i u)) := by
  have h1 := (h.stored i (.bool u)).1
  unfold boolsV at h1 ⊢
  rw [List.map_set]
  exact h1
theorem markD_len (d : List Int) (n : Int) (on : List Bool) (e : Edg) : (markD d n on e).length = on.length := by
  unfold markD
  split
  · rw [List.length_set]
  · rfl
theorem marksE_len (d : List Int) (n : Int) : ∀ (q : List Edg) (on : List Bool), (q.foldl (markD d n) on).length = on.length
  | [], _ => rfl
  | e :: q, on => by rw [List.foldl_cons, marksE_len d n q, markD_len]
theorem marks_snoc (d : List Int) (n : Int) (es : List Edg) (on : List Bool) (i : Nat) (h : i < es.length) : (es.take (i + 1)).foldl (markD d n) on = markD d n ((es.take i).foldl (markD d n) on) (es.getD i noEdg) := by
  rw [List.take_add_one, List.getElem?_eq_getElem h, List.foldl_append, List.getD_eq_getElem?_getD, List.getElem?_eq_getElem h]; rfl
theorem pick_here {d : List Int} {es : List Edg} {on : List Bool} {z : Nat} {w : List Int} {n j : Nat} (hj : j < z) (hno : ∀ k, k < j → fitsD d es on w n k = false) (hf : fitsD d es on w n j = true) : pickD d es on z w n = [(j : Int)] := by
  unfold pickD
  have : (List.range z).find? (fitsD d es on w n) = some j := List.find?_range_eq_some.2 ⟨hf, List.mem_range.2 hj, fun k hk => by rw [hno k hk]; rfl⟩
  rw [this]
theorem pick_none {d : List Int} {es : List Edg} {on : List Bool} {z : Nat} {w : List Int} {n : Nat} (hno : ∀ k, k < z → fitsD d es on w n k = false) : pickD d es on z w n = [] := by
  unfold pickD
  have : (List.range z).find? (fitsD d es on w n) = none := List.find?_eq_none.2 fun k hk => by rw [hno k (List.mem_range.1 hk)]; decide
  rw [this]
set_option maxRecDepth 100000 in
set_option maxHeartbeats 4000000 in
theorem refWay_any (G : Gr) (v : Value) (A2 : Option Addr) (n2 c2 : Nat) (seeds : List Int) (key : Int) (w : World) (h : GHold w G v) (hgd : Good11 G) (hs : IRow w A2 n2 c2 seeds) (hn2 : n2 ≤ 100000) : Calls Try.prog 23 #[v, .slice A2 n2 c2, .int .i64 key] w (GivesIB w (wayD G seeds key)) := by
  have HGH := Lib.hid h
  obtain ⟨A, n, c, B, m, k, rfl, h1, h2⟩ := h
  have HNW := Lib.hid (one_new w (.cells #[.int .i64 G.sz, .slice A n c, .slice B m k] 29))
  have HX : Hid ((w.alloc (.cells #[.int .i64 G.sz, .slice A n c, .slice B m k] 29)).heap[w.heap.size]? = some (.cells #[.int .i64 G.sz, .slice A n c, .slice B m k] 29 (0, 0))) := Lib.hid (heap_alloc_new _ _)
  have HAC : Hid (∀ y, Below w.heap.size w y → Calls Try.prog 25 #[.agg #[.int .i64 G.sz, .slice A n c, .slice B m k], .slice A2 n2 c2] y fun e w' => ∃ v', e = .returned v' ∧ w'.ownsRow y.heap.size 3 1 v' G.sz.toNat (intsV (allD G seeds)) ∧ Below y.heap.size y w') := Lib.hid fun y hy => refAll_any G _ A2 n2 c2 seeds y (HGH.out.later hy) hgd (hs.later hy) hn2
  have HAD := Lib.hid (allD_dist hgd seeds)
  have hlo := hgd.lo
  have hhi := hgd.hi
  obtain ⟨z, hz⟩ : ∃ z : Nat, G.sz.toNat = z := ⟨_, rfl⟩
  have HGZ : Hid (G.sz = (z : Int)) := Lib.hid (by omega)
  have hz64 : z ≤ 64 := by omega
  rw [hz] at HAC HAD
  have hn : n ≤ 100000 := by rw [← ERow.len h1]; exact hgd.few.1
  have HLR := Lib.hid h1
  have HLN : Hid (G.es.length = n) := Lib.hid (ERow.len h1)
  have HIZ := Lib.hid (good_inZ hgd)
  rw [hz] at HIZ
  have HZZ := Lib.hid hz
  clear hz hlo hhi h1 h2 hs hgd HGH
  go_enter Try.func23, Try.ntmps23
  go_upto_region 1 with fail
  have HSZ : Hid (w.heap.size + 1 = (w.alloc (.cells #[.int .i64 G.sz, .slice A n c, .slice B m k] 29)).heap.size) := Lib.hid (by simp)
  generalize w.alloc (.cells #[.int .i64 G.sz, .slice A n c, .slice B m k] 29) = y0 at *
  go_wp2_with (refine wpList_load_row rfl 29 (.tmp 3) rfl w.heap.size rfl 29 #[.int .i64 G.sz, .slice A n c, .slice B m k] (0, 0) _ HX.out Try.underlying29 rfl gr_size ?_)
  refine (HAC.out y0 HNW.out).mono ?_
  rintro e w1 ⟨v8, rfl, ho, hb⟩
  obtain ⟨A5, c5, rfl, hr5⟩ := Row.of_own ho
  obtain ⟨d, hd⟩ : ∃ d, allD G seeds = d := ⟨_, rfl⟩
  have HD : Hid (d = allD G seeds) := Lib.hid hd.symm
  rw [hd] at hr5 HAD
  have HR5 : Hid (IRow w1 A5 z c5 d) := Lib.hid hr5
  have HBW : Hid (Below w.heap.size w w1) := Lib.hid (HNW.out.trans (hb.mono HNW.out.size))
  have HX1 : Hid (w1.heap[w.heap.size]? = some (.cells #[.int .i64 G.sz, .slice A n c, .slice B m k] 29 (0, 0))) := Lib.hid ((hb.block _ (by have := HSZ.out; omega)).trans HX.out)
  have HL1 : Hid (ERow w1 A n c G.es) := Lib.hid (GRow.later HLR.out HBW.out)
  have HGW : Hid (w.heap.size < w1.heap.size) := Lib.hid (by have := hb.size; have := HSZ.out; omega)
  clear ho hb hr5 HAC HX hd HLR
  have HDL : Hid (d.length = z) := Lib.hid HAD.out.len
  by_cases hk0 : key < 0
  · have d0 : decide (key < 0) = true := decide_eq_true hk0
    have HNO : Hid (¬ (0 ≤ key ∧ key < G.sz ∧ 0 ≤ dAt (allD G seeds) key)) := Lib.hid (by omega)
    clear hk0
    have HE : Hid (wayD G seeds key = ([], false)) := Lib.hid (by unfold wayD; rw [if_neg HNO.out])
    go_wp2_with fail
    go_ret2
    rw [HE.out]
    exact ⟨none, 0, 0, rfl, Row.nilRow _ _, HBW.out⟩
  have d0 : decide (key < 0) = false := decide_eq_false hk0
  have hgz : w1.cell? ⟨w.heap.size, 0, none⟩ = some (.int .i64 G.sz) := (cell_of_row _ _ 0 _ _ _ HX1.out).trans rfl
  rw [HGZ.out] at hgz
  by_cases hk1 : (z : Int) ≤ key
  · have d1 : decide (key ≥ (z : Int)) = true := decide_eq_true hk1
    have d1' : decide ((z : Int) ≤ key) = true := d1
    have HNO : Hid (¬ (0 ≤ key ∧ key < G.sz ∧ 0 ≤ dAt (allD G seeds) key)) := Lib.hid (by have := HGZ.out; omega)
    clear hk0 hk1
    have HE : Hid (wayD G seeds key = ([], false)) := Lib.hid (by unfold wayD; rw [if_neg HNO.out])
    go_wp2_with fail
    go_ret2
    rw [HE.out]
    exact ⟨none, 0, 0, rfl, Row.nilRow _ _, HBW.out⟩
  have d1 : decide (key ≥ (z : Int)) = false := decide_eq_false hk1
  have d1' : decide ((z : Int) ≤ key) = false := d1
  obtain ⟨nk, hnk⟩ : ∃ nk : Nat, key = (nk : Int) := ⟨key.toNat, by omega⟩
  have hn1 : (nk : Int) < (z : Int) := by omega
  have hzlt : nk < z := by omega
  have d1n : decide (z ≤ nk) = false := decide_eq_false (by omega)
  subst hnk
  obtain ⟨bd, offd, hA, hdc⟩ := IRow.cell (l := d) HR5.out nk hzlt
  subst hA
  rw [dAt_cell (by rw [HDL.out]; exact hzlt)] at hdc
  have HLO := Lib.hid (HAD.out.low (nk : Int) (by omega) hn1)
  clear hk0 hk1
  by_cases hun : dAt d (nk : Int) < 0
  · have b0 : decide (dAt d (nk : Int) < 0) = true := decide_eq_true hun
    have HNO : Hid (¬ (0 ≤ (nk : Int) ∧ (nk : Int) < G.sz ∧ 0 ≤ dAt (allD G seeds) (nk : Int))) := Lib.hid (by rw [← HD.out]; omega)
    clear hun HLO
    generalize dAt d (nk : Int) = dv at *
    have HE : Hid (wayD G seeds (nk : Int) = ([], false)) := Lib.hid (by unfold wayD; rw [if_neg HNO.out])
    go_wp2_with fail
    go_ret2
    rw [HE.out]
    exact ⟨none, 0, 0, rfl, Row.nilRow _ _, HBW.out⟩
  have b0 : decide (dAt d (nk : Int) < 0) = false := decide_eq_false hun
  obtain ⟨N, hN⟩ : ∃ N : Nat, dAt d (nk : Int) = (N : Int) := ⟨(dAt d (nk : Int)).toNat, by omega⟩
  have hNz : N < z := by
    have h1 := HAD.out.lt (k := (nk : Int)) (by omega) hn1
    omega
  have HE : Hid (wayD G seeds (nk : Int) = (wayUp d G.es (marked d G.es z (nk : Int)) z (N + 1), true)) := Lib.hid (by
    unfold wayD
    rw [← HD.out, HZZ.out, if_pos ⟨by omega, by have := HGZ.out; omega, by omega⟩, hN, Int.toNat_natCast])
  have HMK : Hid (marked d G.es z (nk : Int) = marksD d G.es N (((List.replicate z false)).set nk true)) := Lib.hid (by unfold marked on0; rw [hN, Int.toNat_natCast, Int.toNat_natCast])
  have HWD : Hid (∀ q, q ≤ N + 1 → (wayUp d G.es (marked d G.es z (nk : Int)) z q).length = q) := Lib.hid fun q hq => (way_up HAD.out HIZ.out (by omega) hn1 (by omega) q (by omega)).len
  rw [HMK.out] at HE HWD
  rw [hN] at hdc b0
  have HNK := Lib.hid hN
  clear hun hN HLO HMK HAD
  generalize G.es = es at *
  go_upto_region 5 with (at_make; go_must (refine wpList_make _ rfl (.tmp 35) (.tmp 35) 58 4 rfl w1.heap.size Try.underlying58 bool_info rfl z z rfl rfl rfl rfl (Nat.le_refl _) (by omega) (by unfold maxLen; omega) (Nat.le_refl _) ?_); intro w2 ho hb; have HO2 : Hid (w2.ownsRow w1.heap.size 4 1 (.slice (some ⟨w1.heap.size, 0, none⟩) z z) z (boolsV (List.replicate z false))) := Lib.hid (by have h := ho; unfold boolsV; rw [List.map_replicate]; exact h); clear ho; have HB2 : Hid (Below w1.heap.size w1 w2) := Lib.hid hb; clear hb)
  clear hgz d0 d1 d1' b0 d1n
  have HO3 := Lib.hid (own_setb HO2.out nk true)
  obtain ⟨hoc, hof⟩ := own_b HO2.out hzlt
  generalize onAt (List.replicate z false) (nk : Int) = ob at *
  have HON0 : Hid (((List.replicate z false).set nk true).length = z) := Lib.hid (by rw [List.length_set, List.length_replicate])
  generalize (List.replicate z false).set nk true = ON0 at *
  have HB3 : Hid (Below w1.heap.size w1 (w2.setCell ⟨w1.heap.size, nk, none⟩ (.bool true))) := Lib.hid (HB2.out.setCell (p := ⟨w1.heap.size, nk, none⟩) (Nat.le_refl _) _)
  go_upto_region 6 with fail
  clear hoc hof HO2 HB2
  generalize w2.setCell ⟨w1.heap.size, nk, none⟩ (.bool true) = w3 at *
  have hdc3 : w3.cell? ⟨bd, offd + nk, none⟩ = some (.int .i64 (N : Int)) := (HB3.out.cell (p := ⟨bd, offd + nk, none⟩) (World.block_lt_of_cell? w1 _ hdc)).trans hdc
  clear hdc
  obtain ⟨g, hgg⟩ : ∃ g, w.heap.size = g := ⟨_, rfl⟩
  rw [hgg] at HX1 HGW ⊢
  have HGG := Lib.hid hgg
  clear hgg
  obtain ⟨gon, hgon⟩ : ∃ gon, w1.heap.size = gon := ⟨_, rfl⟩
  rw [hgon] at HO3 HB3 HGW ⊢
  have HGO := Lib.hid hgon
  clear hgon
  go_wp2_with fail
  clear hdc3
  go_loopw [10] (fun i wr => ∃ q : Nat, q ≤ N ∧ i = .int .i64 q ∧ Hid (∃ X : List Bool, X.length = z ∧ marksD d es N ON0 = marksD d es q X ∧ wr.ownsRow gon 4 1 (.slice (some ⟨gon, 0, none⟩) z z) z (boolsV X) ∧ Below gon w1 wr)) (fun i _ => (intOf i).toNat)
  case atStart => exact ⟨N, Nat.le_refl _, rfl, Lib.hid ⟨ON0, HON0.out, rfl, HO3.out, HB3.out⟩⟩
  case round =>
    clear HO3 HB3 HON0
    obtain ⟨q, hq, rfl, HQ⟩ := hrel
    obtain ⟨X, HQ2⟩ := HQ.out
    clear HQ
    have HXL := Lib.hid HQ2.1
    have HMM := Lib.hid HQ2.2.1
    have HO := Lib.hid HQ2.2.2.1
    have HBr := Lib.hid HQ2.2.2.2
    clear HQ2
    have HXr : Hid (wr.heap[g]? = some (.cells #[.int .i64 G.sz, .slice A n c, .slice B m k] 29 (0, 0))) := Lib.hid ((HBr.out.block _ HGW.out).trans HX1.out)
    by_cases hq0 : 0 < q
    · obtain ⟨p, rfl⟩ : ∃ p, q = p + 1 := ⟨q - 1, by omega⟩
      have hq1 : (0 : Int) < (p : Int) + 1 := by omega
      have HMS : Hid (marksD d es (p + 1) X = marksD d es p (es.foldl (markD d ((p : Int) + 1)) X)) := Lib.hid rfl
      have HOB : Hid (wr.ownsRow gon 4 1 (.slice (some ⟨gon, 0, none⟩) z z) z (boolsV ((es.take 0).foldl (markD d ((p : Int) + 1)) X)) ∧ Below gon w1 wr) := Lib.hid ⟨HO.out, HBr.out⟩
      clear HO HBr HXr
      go_wp2_with fail
      go_loopw [11] (fun i wr => ∃ r : Nat, r ≤ n ∧ i = .int .i64 r ∧ Hid (wr.ownsRow gon 4 1 (.slice (some ⟨gon, 0, none⟩) z z) z (boolsV ((es.take r).foldl (markD d ((p : Int) + 1)) X)) ∧ Below gon w1 wr)) (fun i _ => n - (intOf i).toNat)
      case atStart => exact ⟨0, Nat.zero_le _, rfl, HOB⟩
      case round =>
        clear HOB
        obtain ⟨r, hr, rfl, HQ⟩ := hrel
        have HO := Lib.hid HQ.out.1
        have HBr := Lib.hid HQ.out.2
        clear HQ
        have HXr : Hid (wr.heap[g]? = some (.cells #[.int .i64 G.sz, .slice A n c, .slice B m k] 29 (0, 0))) := Lib.hid ((HBr.out.block _ HGW.out).trans HX1.out)
        have hg1 : wr.cell? ⟨g, 1, none⟩ = some (.slice A n c) := (cell_of_row _ _ 1 _ _ _ HXr.out).trans rfl
        by_cases hlr : r < n
        · have hlr2 : (r : Int) < (n : Int) := by omega
          have hre : r < es.length := by rw [HLN.out]; exact hlr
          have HST := Lib.hid (marks_snoc d ((p : Int) + 1) es X r hre)
          have HYL : Hid (((es.take r).foldl (markD d ((p : Int) + 1)) X).length = z) := Lib.hid (by rw [marksE_len]; exact HXL.out)
          obtain ⟨b, off, hA, hc⟩ := GRow.cells Edg.len (by decide) (GRow.later HL1.out (by have h := HBr.out; have e := HGO.out; rw [← e] at h; exact h)) noEdg r hlr
          subst hA
          have hpm : es.getD r noEdg ∈ es := by rw [List.getD_eq_getElem?_getD, List.getElem?_eq_getElem hre]; exact List.getElem_mem hre
          have hin := HIZ.out _ hpm
          clear hpm hre
          generalize (es.take r).foldl (markD d ((p : Int) + 1)) X = Y at *
          generalize es.getD r noEdg = pe at *
          have HC : Hid (∀ q, q < pe.arr.size → wr.cell? ⟨b, off + r * 3 + q, none⟩ = pe.arr[q]?) := Lib.hid fun q hq => (hc q hq).trans (by rw [← Edg.list, Array.getElem?_toList])
          clear hc
          go_upto_region 13 with (first | (refine wpList_load_cells rfl 38 (.tmp 58) rfl b (off + r * 3) rfl pe.arr _ Try.underlying38 rfl pe.info HC.out ?_) | (refine wpList_store_new rfl 38 (.tmp 12) (.tmp 59) rfl 38 _ pe.arr rfl rfl pe.info rfl pe.one ?_))
          have HN3 := Lib.hid (one_new wr (.cells pe.arr 38))
          have HYC : Hid ((wr.alloc (.cells pe.arr 38)).heap[wr.heap.size]? = some (.cells pe.arr 38 (0, 0))) := Lib.hid (heap_alloc_new _ _)
          have HO3 := Lib.hid (own_later HO.out HN3.out)
          have HB3 : Hid (Below gon w1 (wr.alloc (.cells pe.arr 38))) := Lib.hid (HBr.out.trans (HN3.out.mono (by have := HBr.out.size; have := HGO.out; omega)))
          clear HO HBr HC HN3 hg1 HXr
          generalize wr.alloc (.cells pe.arr 38) = x2 at *
          generalize wr.heap.size = g4 at *
          obtain ⟨hy0, hy1, -⟩ := edg_cells HYC.out
          obtain ⟨nf, hnf⟩ : ∃ nf : Nat, pe.fr = (nf : Int) := ⟨pe.fr.toNat, by have := hin.1; omega⟩
          obtain ⟨nt, hnt⟩ : ∃ nt : Nat, pe.tu = (nt : Int) := ⟨pe.tu.toNat, by have := hin.2.2.1; omega⟩
          have hfz : (nf : Int) < (z : Int) := by rw [← hnf]; exact hin.2.1
          have htz : (nt : Int) < (z : Int) := by rw [← hnt]; exact hin.2.2.2
          have hfz2 : nf < z := by omega
          have htz2 : nt < z := by omega
          have HSD : Hid (markD d ((p : Int) + 1) Y pe = if onAt Y (nt : Int) = true ∧ dAt d (nt : Int) = (p : Int) + 1 ∧ dAt d (nf : Int) = (p : Int) + 1 - 1 then Y.set nf true else Y) := Lib.hid (by unfold markD; rw [hnf, hnt, Int.toNat_natCast])
          rw [hnf] at hy0
          rw [hnt] at hy1
          clear hnf hnt hin
          obtain ⟨hoc, -⟩ := own_b HO3.out htz2
          obtain ⟨hfc, hff⟩ := own_b HO3.out hfz2
          have HR5x := HR5.out.later (by have h := HB3.out; have e := HGO.out; rw [← e] at h; exact h)
          obtain ⟨b9, off9, hA9, hdt⟩ := IRow.cell (l := d) HR5x nt htz2
          injection hA9 with hA9
          injection hA9 with i1 i2
          subst i1 i2
          obtain ⟨b9, off9, hA9, hdf⟩ := IRow.cell (l := d) HR5x nf hfz2
          injection hA9 with hA9
          injection hA9 with i1 i2
          subst i1 i2
          rw [dAt_cell (by rw [HDL.out]; exact htz2)] at hdt
          rw [dAt_cell (by rw [HDL.out]; exact hfz2)] at hdf
          have HO4 := Lib.hid (own_setb HO3.out nf true)
          have HB4 : Hid (Below gon w1 (x2.setCell ⟨gon, nf, none⟩ (.bool true))) := Lib.hid (HB3.out.setCell (p := ⟨gon, nf, none⟩) (Nat.le_refl _) _)
          clear HYC HR5x
          generalize dAt d (nf : Int) = df at *
          generalize dAt d (nt : Int) = dt at *
          generalize onAt Y (nt : Int) = ot at *
          generalize onAt Y (nf : Int) = of at *
          cases ot
          · rw [HSD.out, if_neg (fun h => absurd h.1 (by decide))] at HST
            clear HSD HO4 HB4 hff hfc
            go_wp2_with fail
            exact ⟨⟨r + 1, hlr, by go_num, Lib.hid ⟨by rw [HST.out]; exact HO3.out, HB3.out⟩⟩, by simp [intOf]; omega⟩
          · by_cases hdt1 : dt = (p : Int) + 1
            · have b0 : (dt == (p : Int) + 1) = true := by rw [hdt1]; simp
              by_cases hdf1 : df = (p : Int)
              · have b1 : (df == (p : Int)) = true := by rw [hdf1]; simp
                rw [HSD.out, if_pos ⟨rfl, hdt1, by omega⟩] at HST
                clear hdt1 hdf1 HSD HO3 HB3
                go_wp2_with fail
                exact ⟨⟨r + 1, hlr, by go_num, Lib.hid ⟨by rw [HST.out]; exact HO4.out, HB4.out⟩⟩, by simp [intOf]; omega⟩
              · have b1 : (df == (p : Int)) = false := by rw [beq_eq_false_iff_ne]; exact hdf1
                rw [HSD.out, if_neg (fun h => hdf1 (by omega))] at HST
                clear hdt1 hdf1 HSD HO4 HB4 hff hfc
                go_wp2_with fail
                exact ⟨⟨r + 1, hlr, by go_num, Lib.hid ⟨by rw [HST.out]; exact HO3.out, HB3.out⟩⟩, by simp [intOf]; omega⟩
            · have b0 : (dt == (p : Int) + 1) = false := by rw [beq_eq_false_iff_ne]; exact hdt1
              rw [HSD.out, if_neg (fun h => hdt1 h.2.1)] at HST
              clear hdt1 HSD HO4 HB4 hff hfc
              go_wp2_with fail
              exact ⟨⟨r + 1, hlr, by go_num, Lib.hid ⟨by rw [HST.out]; exact HO3.out, HB3.out⟩⟩, by simp [intOf]; omega⟩
        · have hlr2 : ¬ (r : Int) < (n : Int) := by omega
          have HNX : Hid (∃ X : List Bool, X.length = z ∧ marksD d es N ON0 = marksD d es p X ∧ wr.ownsRow gon 4 1 (.slice (some ⟨gon, 0, none⟩) z z) z (boolsV X) ∧ Below gon w1 wr) := Lib.hid ⟨es.foldl (markD d ((p : Int) + 1)) X, by rw [marksE_len]; exact HXL.out, by rw [HMM.out, HMS.out], by
            have h := HO.out
            rw [List.take_of_length_le (by have := HLN.out; omega)] at h
            exact h, HBr.out⟩
          clear HO HBr HXr
          go_wp2_with fail
          exact ⟨⟨p, by omega, by go_num, HNX⟩, by simp [intOf]⟩
    · have hq0' : q = 0 := by omega
      have hq1 : ¬ (0 : Int) < (q : Int) := by omega
      have HMX : Hid (marksD d es N ON0 = X) := Lib.hid (by rw [HMM.out, hq0']; rfl)
      rw [HMX.out] at HE HWD
      clear HMM HMX HXr hq hq0
      go_wp2_with fail
      obtain ⟨w4, hw4⟩ : ∃ w4, wr = w4 := ⟨_, rfl⟩
      rw [hw4] at HO HBr ⊢
      clear hw4
      generalize hgw : w4.heap.size = gw at *
      have HGWW := Lib.hid hgw
      have HGOW : Hid (gon ≤ gw) := Lib.hid (by rw [← hgw]; exact Nat.le_of_lt (own_lt HO.out gon rfl))
      clear hgw
      obtain ⟨WU, hWU⟩ : ∃ WU : Nat → List Int, WU = wayUp d es X z := ⟨_, rfl⟩
      have HWU0 : Hid (WU 0 = []) := Lib.hid (by rw [hWU]; rfl)
      have HWUS : Hid (∀ q, WU (q + 1) = WU q ++ pickD d es X z (WU q) q) := Lib.hid fun q => by rw [hWU]; rfl
      rw [← hWU] at HE HWD
      clear hWU
      have HOX := Lib.hid HO.out
      have HBX := Lib.hid HBr.out
      clear HO HBr
      go_loopw [13, 14] (fun v i wr => ∃ q : Nat, q ≤ N + 1 ∧ i = .int .i64 q ∧ Hid (wr.ownsRow gw 3 1 v q (intsV (WU q)) ∧ Below gw w4 wr)) (fun _ i _ => N + 1 - (intOf i).toNat)
      case atStart => exact ⟨0, Nat.zero_le _, rfl, Lib.hid ⟨by rw [HWU0.out]; exact World.ownsRow_nil _ _ _ _, Below.refl _ _⟩⟩
      case round =>
        obtain ⟨q, hqN, rfl, HQ⟩ := hrel
        have HO := Lib.hid HQ.out.1
        have HBr := Lib.hid HQ.out.2
        clear HQ
        obtain ⟨A6, c6, hv6, -⟩ := Row.of_own HO.out
        subst hv6
        have HWr : Hid (Below gon w1 wr) := Lib.hid (HBX.out.trans (HBr.out.mono HGOW.out))
        have HW1r : Hid (Below w1.heap.size w1 wr) := Lib.hid (by have h := HWr.out; have e := HGO.out; rw [← e] at h; exact h)
        obtain ⟨b9, off9, hA9, hdn⟩ := IRow.cell (l := d) (HR5.out.later HW1r.out) nk hzlt
        injection hA9 with hA9
        injection hA9 with i1 i2
        subst i1 i2
        rw [dAt_cell (by rw [HDL.out]; exact hzlt), HNK.out] at hdn
        by_cases hqn : q ≤ N
        · have hq2 : (q : Int) ≤ (N : Int) := by omega
          have HWL := Lib.hid (HWD.out q hqN)
          have HW1 := Lib.hid (HWD.out (q + 1) (by omega))
          have HOB : Hid ((∀ k, k < 0 → fitsD d es X (WU q) q k = false) ∧ wr.ownsRow gw 3 1 (.slice A6 q c6) q (intsV (WU q)) ∧ Below gw w4 wr) := Lib.hid ⟨fun k hk => absurd hk (Nat.not_lt_zero _), HO.out, HBr.out⟩
          clear HO HBr HWr HW1r
          go_wp2_with fail
          clear hdn
          go_loopw [13, 15] (fun v i wr => ∃ j : Nat, j ≤ z ∧ i = .int .i64 j ∧ v = .slice A6 q c6 ∧ Hid ((∀ k, k < j → fitsD d es X (WU q) q k = false) ∧ wr.ownsRow gw 3 1 (.slice A6 q c6) q (intsV (WU q)) ∧ Below gw w4 wr)) (fun _ i _ => z - (intOf i).toNat)
          case atStart => exact ⟨0, Nat.zero_le _, rfl, rfl, HOB⟩
          case round =>
            clear HOB
            obtain ⟨j, hj, rfl, rfl, HQ⟩ := hrel
            have HNO := Lib.hid HQ.out.1
            have HO := Lib.hid HQ.out.2.1
            have HBr := Lib.hid HQ.out.2.2
            clear HQ
            have HWr : Hid (Below gon w1 wr) := Lib.hid (HBX.out.trans (HBr.out.mono HGOW.out))
            have HXr : Hid (wr.heap[g]? = some (.cells #[.int .i64 G.sz, .slice A n c, .slice B m k] 29 (0, 0))) := Lib.hid ((HWr.out.block _ HGW.out).trans HX1.out)
            have hg0 : wr.cell? ⟨g, 0, none⟩ = some (.int .i64 G.sz) := (cell_of_row _ _ 0 _ _ _ HXr.out).trans rfl
            rw [HGZ.out] at hg0
            by_cases hlj : j < z
            · have hlj2 : (j : Int) < (z : Int) := by omega
              have HW1r : Hid (Below w1.heap.size w1 wr) := Lib.hid (by have h := HWr.out; have e := HGO.out; rw [← e] at h; exact h)
              have hoc := (own_b (own_later HOX.out (by have h := HBr.out; have e := HGWW.out; rw [← e] at h; exact h)) hlj).1
              obtain ⟨b9, off9, hA9, hdj⟩ := IRow.cell (l := d) (HR5.out.later HW1r.out) j hlj
              injection hA9 with hA9
              injection hA9 with i1 i2
              subst i1 i2
              rw [dAt_cell (by rw [HDL.out]; exact hlj)] at hdj
              have HLj : Hid (ERow wr A n c es) := Lib.hid (GRow.later HL1.out HW1r.out)
              have HFI : Hid (fitsD d es X (WU q) q j = (onAt X (j : Int) && (decide (dAt d (j : Int) = (q : Int)) && (decide (q = 0) || hasI (outS es ((WU q).getD (q - 1) 0)) (j : Int))))) := Lib.hid rfl
              have HPH : Hid (fitsD d es X (WU q) q j = true → WU (q + 1) = WU q ++ [(j : Int)]) := Lib.hid fun h => by rw [HWUS.out q, pick_here hlj HNO.out h]
              have HNN : Hid (fitsD d es X (WU q) q j = false → ∀ k, k < j + 1 → fitsD d es X (WU q) q k = false) := Lib.hid fun h k hk => by
                by_cases e : k = j
                · rw [e]; exact h
                · exact HNO.out k (by omega)
              generalize fitsD d es X (WU q) q j = fj at *
              generalize onAt X (j : Int) = bo at *
              generalize dAt d (j : Int) = dv at *
              go_upto_region 22 with fail
              clear hg0 HWr HW1r
              refine wp_region_grow (by kernel_rfl) Later Later.refl (fun _ _ _ => Later.trans) [25, 26] [([0, 1, 2, 3, 4, 5, 6, 7, 8, 9, 10, 11, 12, 13, 14, 15, 16, 17, 18, 19, 20, 21, 23], 22), ([], 24)] (by kernel_rfl) (by kernel_rfl) (by kernel_rfl) ?_
              simp only [List.map_cons, List.map_nil, pick, List.getD_cons_zero, List.getD_cons_succ]
              have hf0 : ∀ x, (fut Later wr.drew x).cell? ⟨gon, j, none⟩ = some (.bool bo) := fun x => ((fut_ok Later.refl wr.drew x).cell (p := ⟨gon, j, none⟩) (World.block_lt_of_cell? wr.drew _ hoc)).trans hoc
              have hf1 : ∀ x, (fut Later wr.drew x).cell? ⟨bd, offd + j, none⟩ = some (.int .i64 dv) := fun x => ((fut_ok Later.refl wr.drew x).cell (p := ⟨bd, offd + j, none⟩) (World.block_lt_of_cell? wr.drew _ hdj)).trans hdj
              have HO1 : Hid (wr.drew.ownsRow gw 3 1 (.slice A6 q c6) q (intsV (WU q)) ∧ Below gw w4 wr.drew) := Lib.hid ⟨World.ownsRow.drew HO.out, HBr.out.drew⟩
              have HX1r : Hid (wr.drew.heap[g]? = some (.cells #[.int .i64 G.sz, .slice A n c, .slice B m k] 29 (0, 0))) := Lib.hid HXr.out
              have HLz : Hid (ERow wr.drew A n c es) := Lib.hid (GRow.later HLj.out (Later.drew wr))
              have hsw : w4.heap.size ≤ wr.drew.heap.size := HBr.out.size
              clear hoc hdj HO HBr HXr HLj
              generalize wr.drew = z0 at *
              have HSW := Lib.hid hsw
              clear hsw
              cases bo
              · have HF : Hid (fj = false) := Lib.hid (by rw [HFI.out]; rfl)
                have HNX := Lib.hid (HNN.out HF.out)
                refine wpGrow_cons ?_
                repeat (go_big_quiet_step (fail))
                refine wpQuiet_nil ?_
                clear hf0 hf1
                go_wp2_with fail
                refine pieceEnd_normal ⟨Later.refl _, ?_⟩
                refine wpGrow_cons ?_
                refine wpQuiet_nil ?_
                go_wp2_with fail
                refine pieceEnd_normal ⟨Later.refl _, ?_⟩
                refine wpGrow_nil ?_
                repeat (go_big_quiet_step (fail))
                refine wpQuiet_nil ?_
                go_wp2_with fail
                exact ⟨⟨j + 1, hlj, by go_num, rfl, Lib.hid ⟨HNX.out, HO1.out⟩⟩, by simp [intOf]; omega⟩
              · by_cases hdq : dv = (q : Int)
                · have b0 : (dv == (q : Int)) = true := by rw [hdq]; simp
                  rw [decide_eq_true hdq, Bool.true_and, Bool.true_and] at HFI
                  clear hdq
                  by_cases hq0 : q = 0
                  · have b1 : ((q : Int) == 0) = true := by rw [hq0]; rfl
                    have HF : Hid (fj = true) := Lib.hid (by rw [HFI.out, decide_eq_true hq0]; rfl)
                    have HPX := Lib.hid (HPH.out HF.out)
                    clear hq0
                    refine wpGrow_cons ?_
                    repeat (go_big_quiet_step (fail))
                    refine wpQuiet_nil ?_
                    clear hf0 hf1
                    go_wp2_with fail
                    refine pieceEnd_normal ⟨Later.refl _, ?_⟩
                    refine wpGrow_cons ?_
                    refine wpQuiet_nil ?_
                    go_wp2_with fail
                    refine pieceEnd_normal ⟨Later.refl _, ?_⟩
                    refine wpGrow_nil ?_
                    repeat (go_big_quiet_step (fail))
                    refine wpQuiet_nil ?_
                    have hsz : gw ≤ z0.heap.size := by have := HSW.out; have := HGWW.out; omega
                    have hq64 : q ≤ 64 := by omega
                    go_wp2_with (at_builtin; go_must (refine wpList_app_new z0 rfl (.tmp 129) (.tmp 131) 22 3 rfl gw Try.underlying22 i64_info rfl _ q (intsV (WU q)) HO1.out.1 rfl 1 #[.int .i64 (j : Int)] rfl (by simp [Value.oneCell']) rfl rfl (by unfold maxLen; omega) (by omega) hsz ?_); intro v3 w5 ho3 hb3; have HO3 := Lib.hid ho3; have HB3 := Lib.hid (HO1.out.2.trans hb3); clear ho3 hb3)
                    exact ⟨⟨q + 1, by omega, by go_num, Lib.hid ⟨by rw [HPX.out, intsV_app]; exact HO3.out, HB3.out⟩⟩, by simp [intOf]; omega⟩
                  · have b1 : ((q : Int) == 0) = false := by rw [beq_eq_false_iff_ne]; omega
                    rw [decide_eq_false hq0, Bool.false_or] at HFI
                    have e1 : (0 : Int) ≤ (q : Int) - 1 := by omega
                    have e2 : (q : Int) - 1 < (q : Int) := by omega
                    have e3 : ((q : Int) - 1).toNat = q - 1 := by omega
                    obtain ⟨gx, cx, hvx⟩ := own_someI HO1.out.1 (by omega)
                    injection hvx with x1 x2 x3
                    subst x1 x3
                    clear x2
                    have hwc := (own_i HO1.out.1 (show q - 1 < q by omega)).1
                    generalize (WU q).getD (q - 1) 0 = lk at *
                    have hf2 : ∀ x, (fut Later z0 x).cell? ⟨gx, q - 1, none⟩ = some (.int .i64 lk) := fun x => ((fut_ok Later.refl z0 x).cell (p := ⟨gx, q - 1, none⟩) (World.block_lt_of_cell? z0 _ hwc)).trans hwc
                    have hfg : ∀ x, (loadVar 29 ⟨g, 0, none⟩).run Try.prog (fut Later z0 x) = .ok (.agg #[.int .i64 G.sz, .slice A n c, .slice B m k]) (fut Later z0 x) := fun x => run_loadVar_row _ g 29 29 #[.int .i64 G.sz, .slice A n c, .slice B m k] (0, 0) _ (((fut_ok Later.refl z0 x).block g (Array.getElem?_eq_some_iff.1 HX1r.out).1).trans HX1r.out) Try.underlying29 rfl gr_size
                    have HOUT := Lib.hid (out_any11 A n c es G.sz B m k lk z0 HLz.out hn)
                    have HOSL : Hid ((outS es lk).length ≤ 100000) := Lib.hid (by
                      have h := outS_len es lk es.length (Nat.le_refl _)
                      rw [List.take_length] at h
                      have := HLN.out
                      omega)
                    generalize outS es lk = OS at *
                    clear hq0 hwc
                    refine wpGrow_cons ?_
                    repeat (first | (refine wpQuiet_load rfl 29 (.tmp 3) rfl ⟨g, 0, none⟩ rfl (.agg #[.int .i64 G.sz, .slice A n c, .slice B m k]) (fun w' h => by obtain ⟨x, rfl⟩ := h; exact hfg x) ?_; simp only [Act.put, List.setIfInBounds_toArray, List.set_cons_succ, List.set_cons_zero]) | go_big_quiet_step (fail))
                    refine wpQuiet_nil ?_
                    clear hf0 hf1 hf2 hfg
                    go_wp2_with fail
                    refine HOUT.out.mono ?_
                    rintro e z1 ⟨A9, n9, c9, rfl, hr9, hb9⟩
                    have HF1 := Lib.hid hb9
                    have HHS := Lib.hid (has_any11 A9 n9 c9 OS (j : Int) z1 hr9 (by rw [← hr9.len]; exact HOSL.out))
                    have HO2 : Hid (z1.ownsRow gw 3 1 (.slice (some ⟨gx, 0, none⟩) q c6) q (intsV (WU q)) ∧ Below gw w4 z1) := Lib.hid ⟨own_later HO1.out.1 hb9, HO1.out.2.trans (hb9.mono (by have := HSW.out; have := HGWW.out; omega))⟩
                    have HSW2 : Hid (w4.heap.size ≤ z1.heap.size) := Lib.hid (Nat.le_trans HSW.out hb9.size)
                    clear hr9 hb9 HOUT HO1 HX1r HLz HSW
                    go_wp2_with fail
                    refine pieceEnd_normal ⟨HF1.out, ?_⟩
                    clear HF1
                    refine wpGrow_cons ?_
                    refine wpQuiet_nil ?_
                    go_wp2_with fail
                    refine HHS.out.mono ?_
                    rintro e z2 ⟨rfl, hb9⟩
                    have HF1 := Lib.hid hb9
                    have HO1 : Hid (z2.ownsRow gw 3 1 (.slice (some ⟨gx, 0, none⟩) q c6) q (intsV (WU q)) ∧ Below gw w4 z2) := Lib.hid ⟨own_later HO2.out.1 hb9, HO2.out.2.trans (hb9.mono (by have := HSW2.out; have := HGWW.out; omega))⟩
                    have HSW : Hid (w4.heap.size ≤ z2.heap.size) := Lib.hid (Nat.le_trans HSW2.out hb9.size)
                    clear hb9 HHS HO2 HSW2
                    generalize hasI OS (j : Int) = hh at *
                    cases hh
                    · have HNX := Lib.hid (HNN.out HFI.out)
                      go_wp2_with fail
                      refine pieceEnd_normal ⟨HF1.out, ?_⟩
                      refine wpGrow_nil ?_
                      repeat (go_big_quiet_step (fail))
                      refine wpQuiet_nil ?_
                      go_wp2_with fail
                      exact ⟨⟨j + 1, hlj, by go_num, rfl, Lib.hid ⟨HNX.out, HO1.out⟩⟩, by simp [intOf]; omega⟩
                    · have HPX := Lib.hid (HPH.out HFI.out)
                      go_wp2_with fail
                      refine pieceEnd_normal ⟨HF1.out, ?_⟩
                      refine wpGrow_nil ?_
                      repeat (go_big_quiet_step (fail))
                      refine wpQuiet_nil ?_
                      have hsz : gw ≤ z2.heap.size := by have := HSW.out; have := HGWW.out; omega
                      have hq64 : q ≤ 64 := by omega
                      go_wp2_with (at_builtin; go_must (refine wpList_app_new z2 rfl (.tmp 129) (.tmp 131) 22 3 rfl gw Try.underlying22 i64_info rfl _ q (intsV (WU q)) HO1.out.1 rfl 1 #[.int .i64 (j : Int)] rfl (by simp [Value.oneCell']) rfl rfl (by unfold maxLen; omega) (by omega) hsz ?_); intro v3 w5 ho3 hb3; have HO3 := Lib.hid ho3; have HB3 := Lib.hid (HO1.out.2.trans hb3); clear ho3 hb3)
                      exact ⟨⟨q + 1, by omega, by go_num, Lib.hid ⟨by rw [HPX.out, intsV_app]; exact HO3.out, HB3.out⟩⟩, by simp [intOf]; omega⟩
                · have b0 : (dv == (q : Int)) = false := by rw [beq_eq_false_iff_ne]; exact hdq
                  have HF : Hid (fj = false) := Lib.hid (by rw [HFI.out, decide_eq_false hdq]; rfl)
                  have HNX := Lib.hid (HNN.out HF.out)
                  clear hdq
                  refine wpGrow_cons ?_
                  repeat (go_big_quiet_step (fail))
                  refine wpQuiet_nil ?_
                  clear hf0 hf1
                  go_wp2_with fail
                  refine pieceEnd_normal ⟨Later.refl _, ?_⟩
                  refine wpGrow_cons ?_
                  refine wpQuiet_nil ?_
                  go_wp2_with fail
                  refine pieceEnd_normal ⟨Later.refl _, ?_⟩
                  refine wpGrow_nil ?_
                  repeat (go_big_quiet_step (fail))
                  refine wpQuiet_nil ?_
                  go_wp2_with fail
                  exact ⟨⟨j + 1, hlj, by go_num, rfl, Lib.hid ⟨HNX.out, HO1.out⟩⟩, by simp [intOf]; omega⟩
            · exfalso
              have h1 := HWUS.out q
              rw [pick_none (fun k hk => HNO.out k (by omega)), List.append_nil] at h1
              have h2 := HWL.out
              have h3 := HW1.out
              rw [h1] at h3
              omega
        · have hq2 : ¬ (q : Int) ≤ (N : Int) := by omega
          have hqe : q = N + 1 := by omega
          obtain ⟨A7, c7, hv7, hr7⟩ := Row.of_own HO.out
          injection hv7 with e1 e2 e3
          subst e1 e3
          clear e2
          have HR7 : Hid (IRow wr A6 q c6 (WU (N + 1))) := Lib.hid (by rw [← hqe]; exact hr7)
          clear hr7 hqe HO
          go_wp2_with fail
          go_ret2
          rw [HE.out]
          exact ⟨_, _, _, rfl, HR7.out, HBW.out.trans (HWr.out.mono (by have := HGW.out; have := HGG.out; omega))⟩
end Go.Proofs.Ytikmffdmgnjpbaa
