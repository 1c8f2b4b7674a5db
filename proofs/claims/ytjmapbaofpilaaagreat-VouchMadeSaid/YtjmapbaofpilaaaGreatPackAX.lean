import Derived.Test.YtjmapbaofpilaaaGreatPackAW
import Derived.Test.YtjmapbaofpilaaaGreatPackAQ
import Derived.Test.YtjmapbaofpilaaaGreatPackAN
import Derived.Test.YtjmapbaofpilaaaGreatPackAC
import Derived.Shelf.Abstract
import Derived.Test.YtjmapbaofpilaaaGreatPackAV
import Derived.WalkMore
import Derived.Test.YtjmapbaofpilaaaGreatPackAU
/- The walks of the dice's Lists and Store. -/
namespace Go.Proofs.YtjmapbaofpilaaaGreat
open Go.RowKit
set_option maxRecDepth 100000 in
set_option maxHeartbeats 4000000 in
theorem lists_g (L D : Nat) (t : List Int) (a : Int) (an : Nat) (hae : a = (an : Int)) (most : Nat) (w : World) (h : ∃ k, DiceAt w L D t k) (ha : an ≤ 20) (hm : most ≤ 20) :
    Calls Tryz.prog 18 #[.pointer (some ⟨D, 0, none⟩), .int .i64 a, .int .i64 most] w fun e w' => ∃ v l, e = .returned v ∧ LGot w' w.heap.size v l ∧ l.length ≤ an * (most + 2) ∧ Gave L D t w w' ∧ TimL (12 + 20 * (most : Int)) l := by
  have hDw : D < w.heap.size := by obtain ⟨k, hk⟩ := h; exact hk.lt
  have HR0 : Hid (Rnd L D t w w) := Lib.hid ⟨But.refl _ _, h⟩
  have HMO : Hid (an * (most + 2) ≤ 440) := Lib.hid (Nat.mul_le_mul ha (by omega : most + 2 ≤ 22))
  have HAE := Lib.hid hae
  clear h hae
  go_enter Tryz.func18, Tryz.ntmps18
  go_wp2_with fail
  go_loopw [7, 8] (fun v i wr => ∃ (j : Nat) (l' : List Pl), j ≤ an ∧ i = .int .i64 j ∧ Hid (l'.length ≤ j * (most + 2)) ∧ Hid (TimL (12 + 20 * (most : Int)) l') ∧ Hid (LGot wr w.heap.size v l' ∧ Rnd L D t w wr)) (fun _ i _ => an - (intOf i).toNat)
  case atStart => exact ⟨0, [], Nat.zero_le _, rfl, Lib.hid (Nat.zero_le _), Lib.hid (fun _ h => (nomatch h)), Lib.hid ⟨LGot.nil _ _, HR0.out⟩⟩
  case round =>
    obtain ⟨j, l', hj, rfl, HLE, HTL, HQ⟩ := hrel
    clear HR0
    obtain ⟨A1, c1, hv, -⟩ := HQ.out.1.own.row
    subst hv
    by_cases hlt : j < an
    · have hlt2 : (j : Int) < a := by rw [HAE.out]; omega
      have hj1 : (0 : Int) ≤ (j : Int) ∧ (j : Int) ≤ 1000 := by omega
      go_wp2_with fail
      refine (chain_g L D t (j : Int) most wr HQ.out.2.dice hj1 hm).mono ?_
      rintro e w1 ⟨v1, l1, rfl, hg1, hl1, hg, ht1⟩
      have HTA := Lib.hid ht1
      have HL1 := Lib.hid (HQ.out.1.but hg.2 hDw)
      have HR1 := Lib.hid (HQ.out.2.gave hg)
      have hws : w.heap.size ≤ wr.heap.size := HQ.out.2.but.size
      obtain ⟨A2, c2, hv2, hr2⟩ := hg1.own.row
      subst hv2
      have HLR := Lib.hid hr2; have HSM := Lib.hid hg1.small
      clear hg1 hr2 hg ht1 HQ
      go_wp2_with fail
      refine (spoil_g L D t A2 l1.length c2 l1 w1 HR1.out.dice HLR.out (by omega) HSM.out (10 + 20 * (most : Int)) (by omega) HTA.out).mono ?_
      rintro e w2 ⟨v2, l2, rfl, hg2, hl2, hg, ht2⟩
      have HTB : Hid (TimL (12 + 20 * (most : Int)) l2) := Lib.hid (ht2.mono (by omega))
      clear ht2 HTA
      have HL2 := Lib.hid (HL1.out.but hg.2 hDw)
      have HR2 := Lib.hid (HR1.out.gave hg)
      have hws1 : w.heap.size ≤ w1.heap.size := HR1.out.but.size
      obtain ⟨A3, c3, hv3, hr3⟩ := hg2.own.row
      subst hv3
      have HG2 := Lib.hid hg2; have HR3 := Lib.hid hr3
      have HCL : Hid (∀ p ∈ l2, PlOk w2 p ∧ Clear (.slice A1 l'.length c1) p) := Lib.hid fun p hp => ⟨hr3.ok p hp, clear_new (w := w1) (q := p) (hg2.hi p hp).1 (hg2.hi p hp).2 (own_lt HL1.out.own.own)⟩
      clear hg2 hr3 hg HLR HSM HL1
      have hle : l'.length + l2.length ≤ 1000 := by have h1 := HLE.out; have h2 := HMO.out; have h3 : j * (most + 2) ≤ an * (most + 2) := Nat.mul_le_mul_right _ hj; omega
      have hll : l'.length ≤ 1000 := by omega
      go_wp2_with (at_builtin; go_must (refine wpList_app2 w2 rfl (.tmp 14) (.tmp 20) 28 28 58 rfl w.heap.size Tryz.underlying28 stm_info rfl _ l'.length (plsC l') HL2.out.own.own rfl _ l2.length (plsC l2) (Row.src HR3.out.row Tryz.underlying28 (plsC_one _)) rfl (by unfold maxLen; omega) (by omega) HR2.out.but.size ?_); intro v4 z4 ho hb hkp hv; have HO4 := Lib.hid (HL2.out.own.app (m := l2) HCL.out ho hkp hv); have HB4 := Lib.hid hb; clear ho hb hkp hv)
      have HGT : Hid (LGot z4 w.heap.size v4 (l' ++ l2)) := Lib.hid ⟨HO4.out, fun s hs => by
        rcases List.mem_append.1 hs with hs | hs
        · exact HL2.out.hi s hs
        · exact (HG2.out.hi s hs).mono hws1, fun s hs => by
        rcases List.mem_append.1 hs with hs | hs
        · exact HL2.out.small s hs
        · exact HG2.out.small s hs⟩
      have HRT : Hid (Rnd L D t w z4) := Lib.hid ⟨HR2.out.but.grow HB4.out, by obtain ⟨k, hk⟩ := HR2.out.dice; exact ⟨k, hk.below HB4.out hDw⟩⟩
      refine ⟨⟨j + 1, l' ++ l2, hlt, by go_num, Lib.hid ?_, Lib.hid (HTL.out.app HTB.out), Lib.hid ⟨HGT.out, HRT.out⟩⟩, by simp [intOf]; omega⟩
      have h1 := HLE.out
      rw [List.length_append, Nat.succ_mul]
      omega
    · have hlt2 : ¬ (j : Int) < a := by rw [HAE.out]; omega
      have hje : j = an := by omega
      go_wp2_with fail
      go_ret
      exact ⟨_, rfl, l', HQ.out.1, by rw [← hje]; exact HLE.out, ⟨HQ.out.2.dice, HQ.out.2.but⟩, HTL.out⟩
set_option maxRecDepth 100000 in
set_option maxHeartbeats 4000000 in
theorem dstore_g (L D : Nat) (t : List Int) (most : Nat) (w : World) (h : ∃ k, DiceAt w L D t k) (hm : most ≤ 20) :
    Calls Tryz.prog 8 #[.pointer (some ⟨D, 0, none⟩), .int .i64 most] w fun e w' => ∃ A2 c2 l, e = .returned (.agg #[.slice A2 (List.length l) c2]) ∧ LRow w' A2 l.length c2 l ∧ (∀ p ∈ l, Small p.s) ∧ l.length ≤ 110 ∧ Gave L D t w w' := by
  have hDw : D < w.heap.size := by obtain ⟨k, hk⟩ := h; exact hk.lt
  have HR0 : Hid (Rnd L D t w (w.alloc (.cells #[.slice none 0 0] 31))) := Lib.hid ((⟨But.refl _ _, h⟩ : Rnd L D t w w).later (one_new w _))
  have HX0 : Hid ((w.alloc (.cells #[.slice none 0 0] 31)).heap[w.heap.size]? = some (.cells #[.slice none 0 0] 31 (0, 0))) := Lib.hid (heap_alloc_new _ _)
  clear h
  go_enter Tryz.func8, Tryz.ntmps8
  go_wp2_with fail
  generalize w.alloc (.cells #[.slice none 0 0] 31) = y0 at *
  refine (next_g L D t 5 y0 HR0.out.dice (by omega) (by omega)).mono ?_
  rintro e w1 ⟨N0, rfl, hN0, hN1, hg⟩
  have HX1 : Hid (w1.heap[w.heap.size]? = some (.cells #[.slice none 0 0] 31 (0, 0))) := Lib.hid ((hg.2.block _ (Array.getElem?_eq_some_iff.1 HX0.out).1 (by omega)).trans HX0.out)
  have HR1 := Lib.hid (HR0.out.gave hg)
  clear hg HR0 HX0
  obtain ⟨N, rfl⟩ : ∃ N : Nat, N0 = (N : Int) := ⟨N0.toNat, by omega⟩
  have hN : 1 + N ≤ 20 := by omega
  have hNE : (1 : Int) + (N : Int) = ((1 + N : Nat) : Int) := by omega
  have HNE := Lib.hid hNE
  clear hNE
  go_wp2_with fail
  refine (lists_g L D t (1 + (N : Int)) (1 + N) HNE.out most w1 HR1.out.dice hN hm).mono ?_
  rintro e w2 ⟨v2, l2, rfl, hg2, hl2, hg, -⟩
  have HX2 : Hid (w2.heap[w.heap.size]? = some (.cells #[.slice none 0 0] 31 (0, 0))) := Lib.hid ((hg.2.block _ (Array.getElem?_eq_some_iff.1 HX1.out).1 (by omega)).trans HX1.out)
  have HR2 := Lib.hid (HR1.out.gave hg)
  have hle : l2.length ≤ 110 := Nat.le_trans hl2 (Nat.mul_le_mul (by omega : 1 + N ≤ 5) (by omega : most + 2 ≤ 22))
  obtain ⟨A3, c3, hv3, hr3⟩ := hg2.own.row
  subst hv3
  have HLR := Lib.hid hr3; have HSM := Lib.hid hg2.small
  clear hg hg2 hr3 HX1 HR1 hl2
  go_wp2_with fail
  refine (storeOfP_any A3 l2.length c3 l2 w2 HLR.out (by omega) HSM.out).mono ?_
  rintro e w3 ⟨A4, c4, l4, rfl, hm4, hr4, hb⟩
  have HX3 : Hid (w3.heap[w.heap.size]? = some (.cells #[.slice none 0 0] 31 (0, 0))) := Lib.hid ((hb.block _ (Array.getElem?_eq_some_iff.1 HX2.out).1).trans HX2.out)
  have HR3 := Lib.hid (HR2.out.later hb)
  have HR4 := Lib.hid hr4
  have HS4 : Hid (∀ p ∈ l4, Small p.s) := Lib.hid fun p hp => by
    have h1 : p.s ∈ storeL (l2.map (·.s)) := by rw [← hm4]; exact List.mem_map_of_mem hp
    obtain ⟨r, hr, he⟩ := List.mem_map.1 (storeL_mem h1).1
    rw [← he]; exact HSM.out r hr
  have hl4 : l4.length ≤ 110 := by
    have h1 := congrArg List.length hm4
    have h2 := storeL_len (l2.map (·.s))
    simp only [List.length_map] at h1 h2; omega
  clear hm4 hr4 hb HX2 HR2 HLR HSM
  go_wp2_with (refine wpList_store_row rfl 31 (.tmp 4) (.tmp 11) rfl w.heap.size #[.slice A4 l4.length c4] rfl rfl 31 _ HX3.out (by kernel_rfl) rfl (by simp [Value.oneCell']) ?_)
  refine bodyPost_ret (v := .agg #[.slice A4 l4.length c4]) (results_cell_row rfl _ _ w.heap.size 31 #[.slice A4 l4.length c4] (0, 0) _ rfl (setRow_heap _ _ _ #[.slice A4 l4.length c4] _ _ HX3.out) Tryz.underlying31 rfl (by kernel_rfl)) rfl ?_
  have HR5 := HR3.out.row w.heap.size (Nat.le_refl _) hDw #[.slice A4 l4.length c4]
  exact ⟨A4, c4, l4, rfl, HR4.out.set HX3.out _, HS4.out, hl4, HR5.dice, HR5.but⟩
end Go.Proofs.YtjmapbaofpilaaaGreat
/- The law of layer 9's sanity check, over any program that gives what layer 9 asks. -/
namespace Go.Proofs.YtjmapbaofpilaaaGreat
open Go.RowKit
/-- A call that gives a list of statements. -/
def GivesL (w : World) (S : List Stm) (e : Ending) (w' : World) : Prop := ∃ A2 c2 l', e = .returned (.slice A2 (List.length l') c2) ∧ l'.map (·.s) = S ∧ LRow w' A2 l'.length c2 l' ∧ Below w.heap.size w w'
theorem GivesL.of_own {w w' : World} {S : List Stm} {e : Ending} (h : ∃ v l', e = .returned v ∧ l'.map (·.s) = S ∧ LOwn w' w.heap.size v l' ∧ Below w.heap.size w w') : GivesL w S e w' := by
  obtain ⟨v, l', rfl, hm, ho, hb⟩ := h
  obtain ⟨A, c, rfl, hr⟩ := ho.row
  exact ⟨A, c, l', rfl, hm, hr, hb⟩
end Go.Proofs.YtjmapbaofpilaaaGreat
/- The walks of epoch's taken, Until, Window. -/
namespace Go.Proofs.YtjmapbaofpilaaaGreat
open Go.RowKit
set_option maxRecDepth 100000 in
set_option maxHeartbeats 4000000 in
theorem eTaken_any (f : Stm → Bool) (g : Nat) (cb : Array Value) (A : Option Addr) (n c : Nat) (l : List Pl) (w : World) (hl : LRow w A n c l) (hn : n ≤ 100000)
    (eg : ∀ args w, (callFunc g args).run Tryz.prog w = .ok (.enter g args) w) (hf : ∀ y (p : Pl), Below w.heap.size w y → Calls Tryz.prog g (#[.agg p.arr] ++ cb) y (SaysL (.bool (f p.s)) y)) :
    Calls Tryz.prog 62 #[.slice A n c, .func (.func g) #[] cb] w (GivesL w ((l.map (·.s)).filter f)) := by
  refine Calls.mono ?_ fun e w' h => GivesL.of_own h
  have HL := Lib.hid hl; have HLN := Lib.hid hl.len; have HF := Lib.hid hf
  clear hl hf
  go_enter Tryz.func62, Tryz.ntmps62
  go_wp2_with fail
  go_loopw [5, 10] (fun v i wr => ∃ (j : Nat) (l' : List Pl), j ≤ n ∧ i = .int .i64 j ∧ Hid (LOwn wr w.heap.size v l' ∧ l'.map (·.s) = ((l.take j).map (·.s)).filter f ∧ Below w.heap.size w wr)) (fun _ i _ => n - (intOf i).toNat)
  case atStart => exact ⟨0, [], Nat.zero_le _, rfl, Lib.hid ⟨LOwn.nil _ _, rfl, Below.refl _ _⟩⟩
  case round =>
    obtain ⟨j, l', hj, rfl, HQ⟩ := hrel
    by_cases hlt : j < n
    · have hlt2 : (j : Int) < (n : Int) := by omega
      have HLJ := Lib.hid (HL.out.later HQ.out.2.2)
      obtain ⟨b, off, hA, hc⟩ := HLJ.out.cells j hlt
      subst hA
      have HOK := Lib.hid (HLJ.out.at j hlt)
      have HT : Hid (((l.take (j + 1)).map (·.s)).filter f = ((l.take j).map (·.s)).filter f ++ [(l.getD j noPl).s].filter f) := Lib.hid (by rw [take_snocP l j (by rw [HLN.out]; exact hlt), List.map_append, List.filter_append]; rfl)
      have HC := Lib.hid hc
      have HCL : Hid (Clear u5 (l.getD j noPl)) := Lib.hid (HL.out.clear (Nat.le_refl _) (fun k e => own_ge HQ.out.1.own k e) _ (HL.out.get j hlt))
      clear hc HLJ
      have HLE : Hid (l'.length ≤ n) := Lib.hid (by have h := congrArg List.length HQ.out.2.1; have h2 := List.length_filter_le f ((l.take j).map (·.s)); simp only [List.length_map, List.length_take] at h h2; omega)
      generalize l.getD j noPl = q at *
      have HN := Lib.hid (one_new wr (.cells q.arr 58))
      have HX : Hid ((wr.alloc (.cells q.arr 58)).heap[wr.heap.size]? = some (.cells q.arr 58 (0, 0))) := Lib.hid (heap_alloc_new _ _)
      have HB := Lib.hid (HQ.out.2.2.trans (HN.out.mono HQ.out.2.2.size))
      have HO := Lib.hid (HQ.out.1.later HN.out)
      have HOK2 := Lib.hid (HOK.out.later HN.out)
      have HM := Lib.hid HQ.out.2.1
      go_upto_region 5 with (first | (refine wpList_load_cells rfl 58 (.tmp 12) rfl b (off + j * 13) rfl q.arr _ Tryz.underlying58 rfl q.info HC.out ?_) | (refine wpList_store_new rfl 58 (.tmp 7) (.tmp 13) rfl 58 _ q.arr rfl rfl q.info rfl q.one ?_))
      clear HQ HC HOK HN
      generalize wr.alloc (.cells q.arr 58) = x2 at *
      generalize wr.heap.size = gb at *
      by_cases hb : f q.s = true
      · have HT2 : Hid (((l.take (j + 1)).map (·.s)).filter f = ((l.take j).map (·.s)).filter f ++ [q.s]) := Lib.hid (by rw [HT.out, List.filter_cons_of_pos hb, List.filter_nil])
        have HFC := Lib.hid (HF.out x2 q HB.out)
        rw [hb] at HFC
        go_wp2_with (refine wpList_load_row rfl 58 (.tmp 7) rfl gb rfl 58 q.arr (0, 0) _ HX.out Tryz.underlying58 rfl q.info ?_)
        refine HFC.out.mono ?_
        rintro e w2 ⟨rfl, hbw⟩
        have HX2 := Lib.hid ((hbw.block _ (Array.getElem?_eq_some_iff.1 HX.out).1).trans HX.out)
        have HO2 := Lib.hid (HO.out.later hbw); have HB2 := Lib.hid (HB.out.trans (hbw.mono HB.out.size)); have HOK3 := Lib.hid (HOK2.out.later hbw)
        clear hbw HX HO HB HOK2 HFC
        have hle := HLE.out
        have hvs : q.arr.size = 13 := rfl
        go_wp2_with (first | (refine wpList_load_row rfl 58 (.tmp 7) rfl gb rfl 58 q.arr (0, 0) _ HX2.out Tryz.underlying58 rfl q.info ?_) | (at_builtin; (first | rw [fold13] | (rw [← hvs, fold13])); go_must (refine wpList_app_newK w2 rfl (.tmp 17) (.tmp 19) 28 58 rfl w.heap.size Tryz.underlying28 stm_info rfl _ l'.length (plsC l') HO2.out.own rfl 1 q.arr rfl q.ones rfl rfl (by unfold maxLen; omega) (by omega) HB2.out.size ?_); intro x3 z3 ho hb3 hk1 hk2; rw [show q.arr.toList = plsC [q] from rfl] at ho; have HO3 := Lib.hid (HO2.out.app (m := [q]) (fun r hr => by rw [List.mem_singleton.1 hr]; exact ⟨HOK3.out, HCL.out⟩) ho hk1 hk2); have HB3 := Lib.hid (HB2.out.trans hb3); clear ho hb3 hk1 hk2))
        refine ⟨⟨j + 1, l' ++ [q], hlt, by go_num, Lib.hid ⟨HO3.out, ?_, HB3.out⟩⟩, by simp [intOf]; omega⟩
        rw [List.map_append, HM.out, HT2.out, List.map_cons, List.map_nil]
      · have HT2 : Hid (((l.take (j + 1)).map (·.s)).filter f = ((l.take j).map (·.s)).filter f) := Lib.hid (by rw [HT.out, List.filter_cons_of_neg hb, List.filter_nil, List.append_nil])
        have HFC := Lib.hid (HF.out x2 q HB.out)
        rw [show f q.s = false by simpa using hb] at HFC
        clear hb
        go_wp2_with (refine wpList_load_row rfl 58 (.tmp 7) rfl gb rfl 58 q.arr (0, 0) _ HX.out Tryz.underlying58 rfl q.info ?_)
        refine HFC.out.mono ?_
        rintro e w2 ⟨rfl, hbw⟩
        have HO2 := Lib.hid (HO.out.later hbw); have HB2 := Lib.hid (HB.out.trans (hbw.mono HB.out.size))
        clear hbw HX HO HB HOK2 HFC
        go_wp2_with fail
        refine ⟨⟨j + 1, l', hlt, by go_num, Lib.hid ⟨HO2.out, ?_, HB2.out⟩⟩, by simp [intOf]; omega⟩
        rw [HM.out, HT2.out]
    · have hlt2 : ¬ (j : Int) < (n : Int) := by omega
      have HE : Hid (j = n) := by unfold Hid; omega
      go_wp2_with fail
      go_ret
      exact ⟨_, rfl, l', by rw [HQ.out.2.1, HE.out, List.take_of_length_le (by rw [HLN.out]; exact Nat.le_refl _)], HQ.out.1, HQ.out.2.2⟩
set_option maxRecDepth 100000 in
set_option maxHeartbeats 4000000 in
theorem eUntil1_any (tm : Int) (bt : Nat) (p : Pl) (w : World) (ht : w.cell? ⟨bt, 0, none⟩ = some (.int .i64 tm)) (hb : bt < w.heap.size) : Calls Tryz.prog 63 #[.agg p.arr, .pointer (some ⟨bt, 0, none⟩)] w (SaysL (.bool (decide (p.s.time ≤ tm))) w) := by
  have hp : (w.alloc (.cells p.arr 58)).cell? ⟨w.heap.size, 3, none⟩ = some (.int .i64 p.s.time) := (cell_of_row _ _ 3 _ _ _ (heap_alloc_new w (.cells p.arr 58))).trans rfl
  have ht2 : (w.alloc (.cells p.arr 58)).cell? ⟨bt, 0, none⟩ = some (.int .i64 tm) := (Below.cell (one_new w _) hb).trans ht
  have HN := Lib.hid (one_new w (.cells p.arr 58))
  clear ht
  unfold Pl.arr at *
  go_enter Tryz.func63, Tryz.ntmps63
  go_wp2_with fail
  go_ret
  exact ⟨rfl, HN.out⟩
set_option maxRecDepth 100000 in
set_option maxHeartbeats 4000000 in
theorem eUntil_any (A : Option Addr) (n c : Nat) (l : List Pl) (tm : Int) (w : World) (hl : LRow w A n c l) (hn : n ≤ 100000) : Calls Tryz.prog 41 #[.slice A n c, .int .i64 tm] w (GivesL w (untilS tm (l.map (·.s)))) := by
  have HN := Lib.hid (one_new w (.cells #[.int .i64 tm] 3))
  have hc : (w.alloc (.cells #[.int .i64 tm] 3)).cell? ⟨w.heap.size, 0, none⟩ = some (.int .i64 tm) := (cell_of_row _ _ 0 _ _ _ (heap_alloc_new w _)).trans rfl
  have hs : w.heap.size < (w.alloc (.cells #[.int .i64 tm] 3)).heap.size := by simp
  have HT := Lib.hid (eTaken_any (fun s => decide (s.time ≤ tm)) 63 #[.pointer (some ⟨w.heap.size, 0, none⟩)] A n c l _ (hl.later HN.out) hn (enters_of Tryz.func63 (by kernel_rfl) rfl) fun y p hb => eUntil1_any tm w.heap.size p y ((Below.cell hb hs).trans hc) (Nat.lt_of_lt_of_le hs hb.size))
  clear hl hc hs
  go_enter Tryz.func41, Tryz.ntmps41
  go_wp2_with fail
  refine HT.out.mono ?_
  rintro e w1 ⟨A2, c2, l2, rfl, hm, hr, hb⟩
  have HM := Lib.hid hm; have HR := Lib.hid hr; have HB := Lib.hid (HN.out.trans (hb.mono HN.out.size))
  clear hm hr hb HN HT
  go_wp2_with fail
  go_ret
  exact ⟨A2, c2, l2, rfl, HM.out, HR.out, HB.out⟩
end Go.Proofs.YtjmapbaofpilaaaGreat
/- The walk of vouch's Gone. -/
namespace Go.Proofs.YtjmapbaofpilaaaGreat
open Go.RowKit
def goneM (m : List Stm) : List Int := (m.filter fun s => decide (s.kind = 3)).map (·.author)
theorem goneM_snoc (m : List Stm) (s : Stm) : goneM (m ++ [s]) = goneM m ++ (if s.kind = 3 then [s.author] else []) := by
  unfold goneM
  rw [List.filter_append, List.map_append]
  congr 1
  by_cases h : s.kind = 3
  · rw [if_pos h, List.filter_cons_of_pos (by simpa using h)]; rfl
  · rw [if_neg h, List.filter_cons_of_neg (by simpa using h)]; rfl
theorem goneM_len (m : List Stm) : (goneM m).length ≤ m.length := by unfold goneM; rw [List.length_map]; exact List.length_filter_le _ _
/-- Sorting a list of one's own, then leaving repeats out. -/
theorem sortComp (B : Nat) (v : Value) (n : Nat) (l : List Int) (w : World) (ho : w.ownsRow B 3 1 v n (intsV l)) (hn : n ≤ 1000000) (hB : B ≤ w.heap.size) :
    Calls Tryz.prog 42 #[v] w fun e w' => e = .returned (.tuple #[]) ∧ Below B w w' ∧ Calls Tryz.prog 43 #[v] w' fun e2 w2 => ∃ A m c, e2 = .returned (.slice A m c) ∧ IRow w2 A m c (Lib.compactUpTo (l.mergeSort fun x y => decide (x ≤ y)).toArray n) ∧ Below B w' w2 := by
  by_cases h0 : 0 < n
  · obtain ⟨g, cap, rfl, hL⟩ := laid_of_own ho h0
    refine Calls.mono (sortI_any hL hn hB) ?_
    rintro e w' ⟨rfl, hL2, hb⟩
    exact ⟨rfl, hb, compactI_any hL2 hn (Nat.le_trans hB hb.size)⟩
  · obtain ⟨A, c, hv, hr⟩ := Row.of_own ho
    have hn0 : n = 0 := by omega
    subst hn0 hv
    have hl : l = [] := by have h := Row.len hr; rw [intsV_len] at h; exact List.eq_nil_of_length_eq_zero (by omega)
    subst hl
    refine Calls.mono (Any.slices_Sort_int_none sortInt A c w) ?_
    rintro e w' ⟨rfl, rfl⟩
    refine ⟨rfl, Below.refl _ _, Calls.mono (compactNone A c _) ?_⟩
    rintro e w2 ⟨rfl, rfl⟩
    exact ⟨A, 0, c, rfl, hr, Below.refl _ _⟩
set_option maxRecDepth 100000 in
set_option maxHeartbeats 4000000 in
theorem vGone_any (A : Option Addr) (n c : Nat) (l : List Pl) (tm : Int) (w : World) (hl : LRow w A n c l) (hn : n ≤ 100000) (ho : Ord10 (l.map (·.s))) : Calls Tryz.prog 23 #[.slice A n c, .int .i64 tm] w (GivesI w (goneS (l.map (·.s)) tm)) := by
  have HU := Lib.hid (eUntil_any A n c l tm w hl hn)
  have HLN := Lib.hid hl.len
  have HGS : Hid (Lib.compactUpTo ((goneM (untilS tm (l.map (·.s)))).mergeSort fun x y => decide (x ≤ y)).toArray (goneM (untilS tm (l.map (·.s)))).length = goneS (l.map (·.s)) tm) := Lib.hid (gone_same ho.ok tm)
  generalize goneS (l.map (·.s)) tm = GS at *
  have HUL : Hid ((untilS tm (l.map (·.s))).length ≤ n) := Lib.hid (by have h := List.length_filter_le (fun s : Stm => decide (s.time ≤ tm)) (l.map (·.s)); rw [List.length_map, HLN.out] at h; exact h)
  clear hl ho
  go_enter Tryz.func23, Tryz.ntmps23
  go_wp2_with fail
  refine HU.out.mono ?_
  rintro e w1 ⟨A2, c2, l2, rfl, hm, hr, hb⟩
  have HL := Lib.hid hr; have HW := Lib.hid hb; have HL2 := Lib.hid hr.len
  rw [← hm] at HGS HUL
  clear hm hr hb HU
  have hn2b : l2.length ≤ 100000 := by have := HUL.out; rw [List.length_map] at this; omega
  have HN2 := Lib.hid hn2b
  obtain ⟨n2, hn2⟩ : ∃ n2, l2.length = n2 := ⟨_, rfl⟩
  rw [hn2] at HL HN2 hn2b ⊢
  have HLE := Lib.hid hn2
  clear hn2 HL2
  go_wp2_with fail
  go_loopw [5, 12] (fun v i wr => ∃ j : Nat, j ≤ n2 ∧ i = .int .i64 j ∧ Hid (wr.ownsRow w1.heap.size 3 1 v (goneM ((l2.take j).map (·.s))).length (intsV (goneM ((l2.take j).map (·.s)))) ∧ Below w1.heap.size w1 wr)) (fun _ i _ => n2 - (intOf i).toNat)
  case atStart => exact ⟨0, Nat.zero_le _, rfl, Lib.hid ⟨World.ownsRow_nil _ _ _ _, Below.refl _ _⟩⟩
  case round =>
    obtain ⟨j, hj, rfl, HQ⟩ := hrel
    obtain ⟨A1, c1, hv, -⟩ := Row.of_own HQ.out.1
    subst hv
    by_cases hlt : j < n2
    · have hlt2 : (j : Int) < (n2 : Int) := by omega
      obtain ⟨b, off, hA, hc⟩ := (HL.out.later HQ.out.2).cells j hlt
      subst hA
      have HC := Lib.hid hc
      have HST : Hid (goneM ((l2.take (j + 1)).map (·.s)) = goneM ((l2.take j).map (·.s)) ++ (if (l2.getD j noPl).s.kind = 3 then [(l2.getD j noPl).s.author] else [])) := Lib.hid (by rw [take_snocP l2 j (by rw [HLE.out]; exact hlt), List.map_append]; exact goneM_snoc _ _)
      have HUL2 : Hid ((goneM ((l2.take j).map (·.s))).length ≤ 100000) := Lib.hid (Nat.le_trans (goneM_len _) (by rw [List.length_map, List.length_take]; omega))
      clear hc
      generalize l2.getD j noPl = q at *
      generalize goneM ((l2.take j).map (·.s)) = U at *
      go_upto_region 5 with (first | (refine wpList_load_cells rfl 58 (.tmp 14) rfl b (off + j * 13) rfl q.arr _ Tryz.underlying58 rfl q.info HC.out ?_) | (refine wpList_store_new rfl 58 (.tmp 7) (.tmp 15) rfl 58 _ q.arr rfl rfl q.info rfl q.one ?_))
      have HN3 := Lib.hid (one_new wr (.cells q.arr 58))
      have HX : Hid ((wr.alloc (.cells q.arr 58)).heap[wr.heap.size]? = some (.cells q.arr 58 (0, 0))) := Lib.hid (heap_alloc_new _ _)
      have HB := Lib.hid (HQ.out.2.trans (HN3.out.mono HQ.out.2.size))
      have HO := Lib.hid (own_later HQ.out.1 HN3.out)
      clear HQ HN3 HC
      generalize wr.alloc (.cells q.arr 58) = x2 at *
      generalize wr.heap.size = g at *
      have hq0 : x2.cell? ⟨g, 0, none⟩ = some (.int .i64 q.s.author) := (cell_of_row _ _ 0 _ _ _ HX.out).trans rfl
      have hq4 : x2.cell? ⟨g, 4, none⟩ = some (.int .i64 q.s.kind) := (cell_of_row _ _ 4 _ _ _ HX.out).trans rfl
      have hul := HUL2.out
      by_cases hk : q.s.kind = 3
      · have b0 : (q.s.kind == 3) = true := by rw [hk]; rfl
        have HE : Hid (goneM ((l2.take (j + 1)).map (·.s)) = U ++ [q.s.author]) := Lib.hid (by rw [HST.out, if_pos hk])
        clear hk
        have hsz : w1.heap.size ≤ x2.heap.size := HB.out.size
        go_wp2_with (at_builtin; go_must (refine wpList_app_new x2 rfl (.tmp 19) (.tmp 22) 22 3 rfl w1.heap.size Tryz.underlying22 i64_info rfl _ U.length (intsV U) HO.out rfl 1 #[.int .i64 q.s.author] rfl (by simp [Value.oneCell']) rfl rfl (by unfold maxLen; omega) (by omega) hsz ?_); intro v3 w3 ho3 hb3; have HO3 := Lib.hid ho3; have HB3 := Lib.hid (HB.out.trans hb3); clear ho3 hb3)
        exact ⟨⟨j + 1, by omega, by go_num, Lib.hid (by rw [HE.out, List.length_append, intsV_app]; exact ⟨HO3.out, HB3.out⟩)⟩, by simp [intOf]; omega⟩
      · have b0 : (q.s.kind == 3) = false := by rw [beq_eq_false_iff_ne]; exact hk
        have HE : Hid (goneM ((l2.take (j + 1)).map (·.s)) = U) := Lib.hid (by rw [HST.out, if_neg hk, List.append_nil])
        clear hk
        go_wp2_with fail
        exact ⟨⟨j + 1, by omega, by go_num, Lib.hid (by rw [HE.out]; exact ⟨HO.out, HB.out⟩)⟩, by simp [intOf]; omega⟩
    · have hlt2 : ¬ (j : Int) < (n2 : Int) := by omega
      have hj2 : j = n2 := by omega
      have HE : Hid ((l2.take j).map (·.s) = l2.map (·.s)) := Lib.hid (by rw [List.take_of_length_le (by rw [HLE.out]; omega)])
      have HO2 := Lib.hid HQ.out.1; have HB := Lib.hid HQ.out.2
      rw [HE.out] at HO2
      have HGL : Hid ((goneM (l2.map (·.s))).length ≤ 100000) := Lib.hid (Nat.le_trans (goneM_len _) (by rw [List.length_map, HLE.out]; exact HN2.out))
      have HSO := Lib.hid (sortComp w1.heap.size _ _ _ wr HO2.out (Nat.le_trans HGL.out (by decide)) HB.out.size)
      rw [HE.out]
      clear HQ HE HO2
      generalize goneM (l2.map (·.s)) = U at *
      rw [HGS.out] at HSO
      go_wp2_with fail
      refine HSO.out.mono ?_
      rintro e w5 ⟨rfl, hb5, hc5⟩
      have HC5 := Lib.hid hc5; have HB5 := Lib.hid (HB.out.trans hb5)
      clear hb5 hc5 HSO
      go_wp2_with fail
      refine HC5.out.mono ?_
      rintro e w6 ⟨A6, n6, c6, rfl, hr6, hb6⟩
      have HR6 := Lib.hid hr6; have HB6 := Lib.hid (HW.out.trans ((HB5.out.trans hb6).mono HW.out.size))
      clear hr6 hb6 HC5
      go_wp2_with fail
      go_ret
      exact ⟨_, _, _, rfl, HR6.out, HB6.out⟩
end Go.Proofs.YtjmapbaofpilaaaGreat
/- The walk of vouch's Active. -/
namespace Go.Proofs.YtjmapbaofpilaaaGreat
open Go.RowKit
set_option maxRecDepth 100000 in
set_option maxHeartbeats 4000000 in
theorem vActive_any (A : Option Addr) (n c : Nat) (l : List Pl) (tm : Int) (w : World) (hl : LRow w A n c l) (hn : n ≤ 100000) (ho : Ord10 (l.map (·.s))) : Calls Tryz.prog 14 #[.slice A n c, .int .i64 tm] w (GivesV w (activeS (l.map (·.s)) tm)) := by
  have HOF := Lib.hid (vOf_any A n c l w hl hn ho)
  have HGN : Hid (∀ y, Below w.heap.size w y → Calls Tryz.prog 23 #[.slice A n c, .int .i64 tm] y (GivesI y (goneS (l.map (·.s)) tm))) := Lib.hid fun y h => vGone_any A n c l tm y (hl.later h) hn ho
  have HALN : Hid ((vouchesS (l.map (·.s))).length ≤ 100000) := Lib.hid (by have h := vouchesS_len (l.map (·.s)); rw [List.length_map, hl.len] at h; omega)
  have HGLN : Hid ((goneS (l.map (·.s)) tm).length ≤ 100000) := Lib.hid (Nat.le_trans (goneUp_len _ _ 64) (by decide))
  have HAS : Hid (actA (vouchesS (l.map (·.s))) (goneS (l.map (·.s)) tm) tm (vouchesS (l.map (·.s))).length = activeS (l.map (·.s)) tm) := Lib.hid (actA_same ho _ tm _ (Nat.le_refl _))
  generalize activeS (l.map (·.s)) tm = GS at *
  generalize vouchesS (l.map (·.s)) = all at *
  generalize goneS (l.map (·.s)) tm = gone at *
  clear hl ho
  go_enter Tryz.func14, Tryz.ntmps14
  go_wp2_with fail
  go_step3
  go_wp2_with fail
  refine HOF.out.mono ?_
  rintro e w1 ⟨A1, n1, c1, rfl, hv1, hb1⟩
  have HV1 := Lib.hid hv1; have HB1 := Lib.hid hb1; have HLN : Hid (all.length = n1) := Lib.hid (VRow.len hv1)
  clear hv1 hb1 HOF
  go_wp2_with fail
  refine (HGN.out w1 HB1.out).mono ?_
  rintro e w2 ⟨A2, n2, c2, rfl, hv2, hb2⟩
  have HG2 := Lib.hid hv2; have HW2 := Lib.hid (HB1.out.trans (hb2.mono HB1.out.size)); have HGL : Hid (gone.length = n2) := Lib.hid hv2.len
  have HV2 := Lib.hid (GRow.later HV1.out hb2)
  have hn1 : n1 ≤ 100000 := by rw [← HLN.out]; exact HALN.out
  have hn2 : n2 ≤ 100000 := by rw [← HGL.out]; exact HGLN.out
  have HHS : Hid (∀ y x, Below w2.heap.size w2 y → Calls Tryz.prog 32 #[.slice A2 n2 c2, .int .i64 x] y (SaysL (.bool (hasI gone x)) y)) := Lib.hid fun y x h => containsI_any A2 n2 c2 gone x y (HG2.out.later h) hn2
  clear hv2 hb2 HGN HV1 HB1 HG2 HGL HGLN hn2
  go_wp2_with fail
  go_step3
  go_wp2_with fail
  go_loopw [7, 19] (fun v i wr => ∃ j : Nat, j ≤ n1 ∧ i = .int .i64 j ∧ Hid (wr.ownsRow w2.heap.size 40 7 v (actA all gone tm j).length (rowC Vou.cells (actA all gone tm j)) ∧ Below w2.heap.size w2 wr)) (fun _ i _ => n1 - (intOf i).toNat)
  case atStart => exact ⟨0, Nat.zero_le _, rfl, Lib.hid ⟨World.ownsRow_nil _ _ _ _, Below.refl _ _⟩⟩
  case round =>
    obtain ⟨j, hj, rfl, HQ⟩ := hrel
    obtain ⟨A3, c3, hv3, -⟩ := Row.of_own HQ.out.1
    subst hv3
    by_cases hlt : j < n1
    · have hlt2 : (j : Int) < (n1 : Int) := by omega
      obtain ⟨b, off, hA, hc⟩ := GRow.cells Vou.len (by decide) (GRow.later HV2.out HQ.out.2) noVou j hlt
      have HA := Lib.hid hA
      have HC : Hid (∀ k, k < (all.getD j noVou).arr.size → wr.cell? ⟨b, off + j * 7 + k, none⟩ = (all.getD j noVou).arr[k]?) := Lib.hid fun k hk => (hc k hk).trans (by rw [← Vou.list, Array.getElem?_toList])
      have HUP : Hid (actA all gone tm (j + 1) = actA all gone tm j ++ (if keepA all gone tm j then [all.getD j noVou] else [])) := Lib.hid rfl
      have HUL : Hid ((actA all gone tm j).length ≤ 100000) := Lib.hid (Nat.le_trans (actA_len _ _ _ _) (by omega))
      have HKP : Hid (keepA all gone tm j = (holdsV (all.getD j noVou) tm && (!hasI gone (all.getD j noVou).fr && (!hasI gone (all.getD j noVou).tu && !runLater (all.getD j noVou) tm (all.drop (j + 1)))))) := Lib.hid rfl
      have HDL : Hid ((all.drop (j + 1)).length = n1 - (j + 1)) := Lib.hid (by rw [List.length_drop, HLN.out])
      have HLD : Hid (VRow w2 (dropA A1 c1 (j + 1) 7) (n1 - (j + 1)) (c1 - (j + 1)) (all.drop (j + 1))) := Lib.hid (GRow.drop Vou.len HV2.out (j + 1) (by omega))
      have HCAP : Hid (n1 ≤ c1) := Lib.hid HV2.out.cap
      clear hc
      generalize all.getD j noVou = p at *
      generalize actA all gone tm j = U at *
      generalize keepA all gone tm j = kb at *
      generalize all.drop (j + 1) = D at *
      subst hA
      go_upto_region 6 with (first | (refine wpList_load_cells rfl 40 (.tmp 22) rfl b (off + j * 7) rfl p.arr _ Tryz.underlying40 rfl p.info HC.out ?_) | (refine wpList_store_new rfl 40 (.tmp 9) (.tmp 23) rfl 40 _ p.arr rfl rfl p.info rfl p.one ?_))
      have HN3 := Lib.hid (one_new wr (.cells p.arr 40))
      have HX : Hid ((wr.alloc (.cells p.arr 40)).heap[wr.heap.size]? = some (.cells p.arr 40 (0, 0))) := Lib.hid (heap_alloc_new _ _)
      have HB := Lib.hid (HQ.out.2.trans (HN3.out.mono HQ.out.2.size))
      have HO := Lib.hid (own_later HQ.out.1 HN3.out)
      clear HQ HN3 HC
      generalize wr.alloc (.cells p.arr 40) = x2 at *
      generalize wr.heap.size = g at *
      have HHO := Lib.hid (vHolds_any p tm x2)
      generalize holdsV p tm = hb at *
      go_wp2_with (refine wpList_load_row rfl 40 (.tmp 9) rfl g rfl 40 p.arr (0, 0) _ HX.out Tryz.underlying40 rfl p.info ?_)
      refine HHO.out.mono ?_
      rintro e x3 ⟨rfl, hb3⟩
      replace HX := Lib.hid ((hb3.block _ (Array.getElem?_eq_some_iff.1 HX.out).1).trans HX.out)
      replace HO := Lib.hid (own_later HO.out hb3)
      replace HB := Lib.hid (HB.out.trans (hb3.mono HB.out.size))
      clear hb3 HHO
      have hq0 : x3.cell? ⟨g, 0, none⟩ = some (.int .i64 p.fr) := (vou_cells7 HX.out).1
      cases hb
      · have HE : Hid (actA all gone tm (j + 1) = U) := Lib.hid (by rw [HUP.out, HKP.out]; simp)
        go_wp2_with fail
        exact ⟨⟨j + 1, by omega, by go_num, Lib.hid (by rw [HE.out]; exact ⟨HO.out, HB.out⟩)⟩, by simp [intOf]; omega⟩
      · go_wp2_with fail
        refine (HHS.out x3 p.fr HB.out).mono ?_
        rintro e x4 ⟨rfl, hb4⟩
        replace HX := Lib.hid ((hb4.block _ (Array.getElem?_eq_some_iff.1 HX.out).1).trans HX.out)
        replace HO := Lib.hid (own_later HO.out hb4)
        replace HB := Lib.hid (HB.out.trans (hb4.mono HB.out.size))
        clear hb4 hq0
        have hq1 : x4.cell? ⟨g, 1, none⟩ = some (.int .i64 p.tu) := (vou_cells7 HX.out).2.1
        generalize hasI gone p.fr = f1 at *
        cases f1
        · go_wp2_with fail
          refine (HHS.out x4 p.tu HB.out).mono ?_
          rintro e x5 ⟨rfl, hb5⟩
          replace HX := Lib.hid ((hb5.block _ (Array.getElem?_eq_some_iff.1 HX.out).1).trans HX.out)
          replace HO := Lib.hid (own_later HO.out hb5)
          replace HB := Lib.hid (HB.out.trans (hb5.mono HB.out.size))
          clear hb5 hq1
          generalize hasI gone p.tu = f2 at *
          cases f2
          · have HKB : Hid (kb = !runLater p tm D) := Lib.hid (by rw [HKP.out]; rfl)
            clear HKP HHS
            obtain ⟨RL, hRL⟩ : ∃ RL, runLater p tm D = RL := ⟨_, rfl⟩
            rw [hRL] at HKB
            have HRL := Lib.hid hRL
            clear hRL
            have hs2 := fun w' => run_slice_from (P := Tryz.prog) (t := 37) Tryz.underlying37 vou_size (A := some ⟨b, off, none⟩) (n := n1) (c := c1) (k := j + 1) (i := (j : Int) + 1) (by omega) (by omega) .i64 w'
            obtain ⟨md, hmd⟩ : ∃ md, n1 - (j + 1) = md := ⟨_, rfl⟩
            rw [hmd] at hs2 HDL HLD
            have HMD := Lib.hid hmd
            have hmd2 : md ≤ 100000 := by omega
            clear hmd
            generalize dropA (some ⟨b, off, none⟩) c1 (j + 1) 7 = AD at *
            generalize c1 - (j + 1) = cd at *
            go_wp2_with fail
            clear hs2
            go_loopw [45] (fun i wr => ∃ k : Nat, k ≤ md ∧ i = .int .i64 k ∧ Hid (runLater p tm (D.drop k) = RL ∧ Below x5.heap.size x5 wr)) (fun i _ => md - (intOf i).toNat)
            case atStart => exact ⟨0, Nat.zero_le _, rfl, Lib.hid ⟨HRL.out, Below.refl _ _⟩⟩
            case round =>
              obtain ⟨k, hk, rfl, HR⟩ := hrel
              have HX6 := Lib.hid ((HR.out.2.block _ (Array.getElem?_eq_some_iff.1 HX.out).1).trans HX.out)
              have HO6 := Lib.hid (own_later HO.out HR.out.2)
              have HB6 := Lib.hid (HB.out.trans (HR.out.2.mono HB.out.size))
              have HD0 := Lib.hid HR.out.1
              have HXB := Lib.hid HR.out.2
              clear HR
              by_cases hkl : k < md
              · have hkl2 : (k : Int) < (md : Int) := by omega
                obtain ⟨b2, off2, hA2, hc2⟩ := GRow.cells Vou.len (by decide) (GRow.later HLD.out HB6.out) noVou k hkl
                subst hA2
                have HC2 : Hid (∀ i, i < (D.getD k noVou).arr.size → wr.cell? ⟨b2, off2 + k * 7 + i, none⟩ = (D.getD k noVou).arr[i]?) := Lib.hid fun i hi => (hc2 i hi).trans (by rw [← Vou.list, Array.getElem?_toList])
                have HDK : Hid (runLater p tm (D.drop k) = if (D.getD k noVou).fr ≠ p.fr ∨ (D.getD k noVou).tu ≠ p.tu then false else if (D.getD k noVou).tm ≤ tm then true else runLater p tm (D.drop (k + 1))) := Lib.hid (by
                  rw [List.drop_eq_getElem_cons (by rw [HDL.out]; exact hkl), runLater, List.getD_eq_getElem?_getD, List.getElem?_eq_getElem (by rw [HDL.out]; exact hkl)]; rfl)
                clear hc2
                generalize D.getD k noVou = y at *
                go_upto_region 10 with (first | (refine wpList_load_cells rfl 40 (.tmp 47) rfl b2 (off2 + k * 7) rfl y.arr _ Tryz.underlying40 rfl y.info HC2.out ?_) | (refine wpList_store_new rfl 40 (.tmp 11) (.tmp 48) rfl 40 _ y.arr rfl rfl y.info rfl y.one ?_))
                have HN7 := Lib.hid (one_new wr (.cells y.arr 40))
                have HY : Hid ((wr.alloc (.cells y.arr 40)).heap[wr.heap.size]? = some (.cells y.arr 40 (0, 0))) := Lib.hid (heap_alloc_new _ _)
                replace HX6 := Lib.hid ((HN7.out.block _ (Array.getElem?_eq_some_iff.1 HX6.out).1).trans HX6.out)
                replace HO6 := Lib.hid (own_later HO6.out HN7.out)
                replace HB6 := Lib.hid (HB6.out.trans (HN7.out.mono HB6.out.size))
                replace HXB := Lib.hid (HXB.out.trans (HN7.out.mono HXB.out.size))
                clear HN7 HC2
                generalize wr.alloc (.cells y.arr 40) = y2 at *
                generalize wr.heap.size = g2 at *
                obtain ⟨hx0, hx1, -⟩ := vou_cells7 HX6.out
                obtain ⟨hy0, hy1, -, -, hy4, -⟩ := vou_cells7 HY.out
                by_cases k0 : y.fr = p.fr
                · have b0 : (y.fr != p.fr) = false := by rw [k0]; simp
                  have K0 := Lib.hid k0; clear k0
                  by_cases k1 : y.tu = p.tu
                  · have b1 : (y.tu != p.tu) = false := by rw [k1]; simp
                    have K1 := Lib.hid k1; clear k1
                    by_cases k2 : y.tm ≤ tm
                    · have b2 : decide (y.tm ≤ tm) = true := decide_eq_true k2
                      have HR : Hid (RL = true) := Lib.hid (by rw [← HD0.out, HDK.out, if_neg (by rw [K0.out, K1.out]; simp), if_pos k2])
                      have HE : Hid (actA all gone tm (j + 1) = U) := Lib.hid (by rw [HUP.out, HKB.out, HR.out]; simp)
                      clear k2
                      go_wp2_with fail
                      exact ⟨⟨j + 1, by omega, by go_num, Lib.hid (by rw [HE.out]; exact ⟨HO6.out, HB6.out⟩)⟩, by simp [intOf]; omega⟩
                    · have b2 : decide (y.tm ≤ tm) = false := decide_eq_false k2
                      have HR : Hid (runLater p tm (D.drop (k + 1)) = RL) := Lib.hid (by rw [← HD0.out, HDK.out, if_neg (by rw [K0.out, K1.out]; simp), if_neg k2])
                      clear k2
                      go_wp2_with fail
                      exact ⟨⟨k + 1, by omega, by go_num, Lib.hid ⟨HR.out, HXB.out⟩⟩, by simp [intOf]; omega⟩
                  · have b1 : (y.tu != p.tu) = true := by rw [bne_iff_ne]; exact k1
                    have HR : Hid (RL = false) := Lib.hid (by rw [← HD0.out, HDK.out, if_pos (.inr k1)])
                    have HE : Hid (actA all gone tm (j + 1) = U ++ [p]) := Lib.hid (by rw [HUP.out, HKB.out, HR.out]; rfl)
                    clear k1
                    have hul := HUL.out
                    have hsz := HB6.out.size
                    have hvs : p.arr.size = 7 := rfl
                    go_wp2_with (first | (refine wpList_load_row rfl 40 (.tmp 9) rfl g rfl 40 p.arr (0, 0) _ HX6.out Tryz.underlying40 rfl p.info ?_) | (at_builtin; (first | rw [fold7n] | rw [fold7]); go_must (refine wpList_app_newK _ rfl (.tmp 66) (.tmp 68) 37 40 rfl w2.heap.size Tryz.underlying37 vou_info rfl _ U.length (rowC Vou.cells U) HO6.out rfl 1 p.arr rfl p.ones rfl rfl (by unfold maxLen; omega) (by omega) hsz ?_); intro x3 z3 ho hb hk1 hk2; have HO9 := Lib.hid ho; have HB9 := Lib.hid (HB6.out.trans hb); clear ho hb hk1 hk2))
                    exact ⟨⟨j + 1, by omega, by go_num, Lib.hid (by rw [HE.out, List.length_append, rowC_app, rowC_single]; exact ⟨HO9.out, HB9.out⟩)⟩, by simp [intOf]; omega⟩
                · have b0 : (y.fr != p.fr) = true := by rw [bne_iff_ne]; exact k0
                  have HR : Hid (RL = false) := Lib.hid (by rw [← HD0.out, HDK.out, if_pos (.inl k0)])
                  have HE : Hid (actA all gone tm (j + 1) = U ++ [p]) := Lib.hid (by rw [HUP.out, HKB.out, HR.out]; rfl)
                  clear k0
                  have hul := HUL.out
                  have hsz := HB6.out.size
                  have hvs : p.arr.size = 7 := rfl
                  go_wp2_with (first | (refine wpList_load_row rfl 40 (.tmp 9) rfl g rfl 40 p.arr (0, 0) _ HX6.out Tryz.underlying40 rfl p.info ?_) | (at_builtin; (first | rw [fold7n] | rw [fold7]); go_must (refine wpList_app_newK _ rfl (.tmp 66) (.tmp 68) 37 40 rfl w2.heap.size Tryz.underlying37 vou_info rfl _ U.length (rowC Vou.cells U) HO6.out rfl 1 p.arr rfl p.ones rfl rfl (by unfold maxLen; omega) (by omega) hsz ?_); intro x3 z3 ho hb hk1 hk2; have HO9 := Lib.hid ho; have HB9 := Lib.hid (HB6.out.trans hb); clear ho hb hk1 hk2))
                  exact ⟨⟨j + 1, by omega, by go_num, Lib.hid (by rw [HE.out, List.length_append, rowC_app, rowC_single]; exact ⟨HO9.out, HB9.out⟩)⟩, by simp [intOf]; omega⟩
              · have hkl2 : ¬ (k : Int) < (md : Int) := by omega
                have HR : Hid (RL = false) := Lib.hid (by rw [← HD0.out, List.drop_eq_nil_of_le (by rw [HDL.out]; omega)]; rfl)
                have HE : Hid (actA all gone tm (j + 1) = U ++ [p]) := Lib.hid (by rw [HUP.out, HKB.out, HR.out]; rfl)
                have hul := HUL.out
                have hsz := HB6.out.size
                have hvs : p.arr.size = 7 := rfl
                go_wp2_with (first | (refine wpList_load_row rfl 40 (.tmp 9) rfl g rfl 40 p.arr (0, 0) _ HX6.out Tryz.underlying40 rfl p.info ?_) | (at_builtin; (first | rw [fold7n] | rw [fold7]); go_must (refine wpList_app_newK _ rfl (.tmp 66) (.tmp 68) 37 40 rfl w2.heap.size Tryz.underlying37 vou_info rfl _ U.length (rowC Vou.cells U) HO6.out rfl 1 p.arr rfl p.ones rfl rfl (by unfold maxLen; omega) (by omega) hsz ?_); intro x3 z3 ho hb hk1 hk2; have HO9 := Lib.hid ho; have HB9 := Lib.hid (HB6.out.trans hb); clear ho hb hk1 hk2))
                exact ⟨⟨j + 1, by omega, by go_num, Lib.hid (by rw [HE.out, List.length_append, rowC_app, rowC_single]; exact ⟨HO9.out, HB9.out⟩)⟩, by simp [intOf]; omega⟩
          · have HE : Hid (actA all gone tm (j + 1) = U) := Lib.hid (by rw [HUP.out, HKP.out]; simp)
            go_wp2_with fail
            exact ⟨⟨j + 1, by omega, by go_num, Lib.hid (by rw [HE.out]; exact ⟨HO.out, HB.out⟩)⟩, by simp [intOf]; omega⟩
        · have HE : Hid (actA all gone tm (j + 1) = U) := Lib.hid (by rw [HUP.out, HKP.out]; simp)
          go_wp2_with fail
          exact ⟨⟨j + 1, by omega, by go_num, Lib.hid (by rw [HE.out]; exact ⟨HO.out, HB.out⟩)⟩, by simp [intOf]; omega⟩
    · have hlt2 : ¬ (j : Int) < (n1 : Int) := by omega
      have HE : Hid (j = n1) := by unfold Hid; omega
      obtain ⟨A4, c4, hv4, hr4⟩ := Row.of_own HQ.out.1
      injection hv4 with hv4 _ hc4
      subst hv4 hc4
      have HB3 := Lib.hid (HW2.out.trans (HQ.out.2.mono HW2.out.size))
      have HGE : Hid (actA all gone tm j = GS) := Lib.hid (by rw [HE.out, ← HLN.out]; exact HAS.out)
      clear HQ
      rw [HGE.out] at hr4 ⊢
      have HR4 := Lib.hid hr4; clear hr4
      go_wp2_with fail
      try rw [Exit.noGoto_ret]
      go_ret
      exact ⟨_, _, _, rfl, HR4.out, HB3.out⟩
end Go.Proofs.YtjmapbaofpilaaaGreat
/- The walk of vouch's Between. -/
namespace Go.Proofs.YtjmapbaofpilaaaGreat
open Go.RowKit
theorem results_vbt {tmps : Array Value} {w : World} {s : Nat} {cs : Array Value} {v : Value} (h2 : tmps.getD 8 undef = .pointer (some ⟨s, 0, none⟩)) (h3 : tmps.getD 9 undef = v)
    (hs : w.heap[s]? = some (.cells cs 40 (0, 0))) (hz : cs.size = 7) :
    (results Tryz.f13 tmps).run Tryz.prog w = .ok (.tuple #[.agg cs, v]) w := by
  have hr : Tryz.f13.results = #[.cell 8 40, .tmp 9] := rfl
  have h2' : tmps[8]?.getD undef = .pointer (some ⟨s, 0, none⟩) := by simpa using h2
  have h3' : tmps[9]?.getD undef = v := by simpa using h3
  have hl := run_loadVar_row (P := Tryz.prog) w s 40 40 cs (0, 0) _ hs Tryz.underlying40 rfl (by rw [hz]; kernel_rfl)
  unfold results
  rw [hr]
  simp [h2', h3', asAddr, hl]
set_option maxRecDepth 100000 in
set_option maxHeartbeats 4000000 in
theorem vBetween_any (A : Option Addr) (n c : Nat) (l : List Pl) (fr tu tm : Int) (w : World) (hl : LRow w A n c l) (hn : n ≤ 100000) (ho : Ord10 (l.map (·.s))) : Calls Tryz.prog 13 #[.slice A n c, .int .i64 fr, .int .i64 tu, .int .i64 tm] w fun e w' => e = .returned (.tuple #[.agg (betweenS (l.map (·.s)) fr tu tm).1.arr, .bool (betweenS (l.map (·.s)) fr tu tm).2]) ∧ Below w.heap.size w w' := by
  have HNW := Lib.hid (one_new w (.cells #[.int .i64 0, .int .i64 0, .int .i64 0, .int .i64 0, .int .i64 0, .int .i64 0, .int .i64 0] 40))
  have HG : Hid ((w.alloc (.cells #[.int .i64 0, .int .i64 0, .int .i64 0, .int .i64 0, .int .i64 0, .int .i64 0, .int .i64 0] 40)).heap[w.heap.size]? = some (.cells #[.int .i64 0, .int .i64 0, .int .i64 0, .int .i64 0, .int .i64 0, .int .i64 0, .int .i64 0] 40 (0, 0))) := Lib.hid (heap_alloc_new _ _)
  have HAC := Lib.hid (vActive_any A n c l tm (w.alloc (.cells #[.int .i64 0, .int .i64 0, .int .i64 0, .int .i64 0, .int .i64 0, .int .i64 0, .int .i64 0] 40)) (hl.later HNW.out) hn ho)
  have HAL : Hid ((activeS (l.map (·.s)) tm).length ≤ n) := Lib.hid (by have h := activeS_len (l.map (·.s)) tm; rw [List.length_map, hl.len] at h; exact h)
  unfold betweenS
  generalize activeS (l.map (·.s)) tm = act at *
  obtain ⟨RS, hrs⟩ : ∃ RS, findV act fr tu = RS := ⟨_, rfl⟩
  rw [hrs]
  have HRS := Lib.hid hrs
  clear hl hrs ho
  go_enter Tryz.func13, Tryz.ntmps13
  go_wp2_with fail
  generalize w.alloc (.cells #[.int .i64 0, .int .i64 0, .int .i64 0, .int .i64 0, .int .i64 0, .int .i64 0, .int .i64 0] 40) = y0 at *
  obtain ⟨g, hgg⟩ : ∃ g, w.heap.size = g := ⟨_, rfl⟩
  rw [hgg] at HG ⊢
  have HGG := Lib.hid hgg
  clear hgg
  have HGL : Hid (g < y0.heap.size) := Lib.hid (Array.getElem?_eq_some_iff.1 HG.out).1
  refine HAC.out.mono ?_
  rintro e w1 ⟨A1, n1, c1, rfl, hv1, hb⟩
  have HV := Lib.hid hv1; have HB := Lib.hid hb
  have hln : act.length = n1 := hv1.len
  have hn1 : n1 ≤ 100000 := by have := HAL.out; omega
  have HLN := Lib.hid hln
  clear hv1 hb hln HAC HAL
  go_wp2_with fail
  go_loopw [16] (fun i wr => ∃ j : Nat, j ≤ n1 ∧ i = .int .i64 j ∧ Hid (findV (act.drop j) fr tu = RS ∧ Below w1.heap.size w1 wr)) (fun i _ => n1 - (intOf i).toNat)
  case atStart => exact ⟨0, Nat.zero_le _, rfl, Lib.hid ⟨HRS.out, Below.refl _ _⟩⟩
  case round =>
    obtain ⟨j, hj, rfl, HQ⟩ := hrel
    have HWB : Hid (Below y0.heap.size y0 wr) := Lib.hid (HB.out.trans (HQ.out.2.mono HB.out.size))
    have HGR : Hid (wr.heap[g]? = some (.cells #[.int .i64 0, .int .i64 0, .int .i64 0, .int .i64 0, .int .i64 0, .int .i64 0, .int .i64 0] 40 (0, 0))) := Lib.hid ((HWB.out.block _ HGL.out).trans HG.out)
    have HWW : Hid (Below g w wr) := Lib.hid (by rw [← HGG.out]; exact HNW.out.trans (HWB.out.mono HNW.out.size))
    by_cases hlt : j < n1
    · have hlt2 : (j : Int) < (n1 : Int) := by omega
      obtain ⟨b, off, hA, hc⟩ := GRow.cells Vou.len (by decide) (GRow.later HV.out HQ.out.2) noVou j hlt
      subst hA
      have HD : Hid (findV (act.drop j) fr tu = if (act.getD j noVou).fr = fr ∧ (act.getD j noVou).tu = tu then (act.getD j noVou, true) else findV (act.drop (j + 1)) fr tu) := Lib.hid (by
        rw [List.drop_eq_getElem_cons (by rw [HLN.out]; exact hlt), findV, List.getD_eq_getElem?_getD, List.getElem?_eq_getElem (by rw [HLN.out]; exact hlt)]; rfl)
      obtain ⟨p, hp⟩ : ∃ p, act.getD j noVou = p := ⟨_, rfl⟩
      rw [hp] at hc HD
      have HC : Hid (∀ k, k < p.arr.size → wr.cell? ⟨b, off + j * 7 + k, none⟩ = p.arr[k]?) := Lib.hid fun k hk => (hc k hk).trans (by rw [← Vou.list, Array.getElem?_toList])
      clear hc hp
      go_upto_region 4 with (first | (refine wpList_load_cells rfl 40 (.tmp 18) rfl b (off + j * 7) rfl p.arr _ Tryz.underlying40 rfl p.info HC.out ?_) | (refine wpList_store_new rfl 40 (.tmp 11) (.tmp 19) rfl 40 _ p.arr rfl rfl p.info rfl p.one ?_))
      have HN3 := Lib.hid (one_new wr (.cells p.arr 40))
      have HX : Hid ((wr.alloc (.cells p.arr 40)).heap[wr.heap.size]? = some (.cells p.arr 40 (0, 0))) := Lib.hid (heap_alloc_new _ _)
      have HGS : Hid (g < wr.heap.size) := Lib.hid (Array.getElem?_eq_some_iff.1 HGR.out).1
      have HR1 := Lib.hid HQ.out.1
      have HBQ := Lib.hid (HQ.out.2.trans (HN3.out.mono HQ.out.2.size))
      replace HWW := Lib.hid (HWW.out.trans (HN3.out.mono (Nat.le_of_lt HGS.out)))
      replace HGR := Lib.hid ((HN3.out.block _ HGS.out).trans HGR.out)
      clear HQ HN3 HC HWB HGS
      generalize wr.alloc (.cells p.arr 40) = x2 at *
      generalize wr.heap.size = g2 at *
      obtain ⟨hp0, hp1, -⟩ := vou_cells7 HX.out
      by_cases k0 : p.fr = fr
      · have b0 : (p.fr == fr) = true := by rw [k0]; simp
        have K0 := Lib.hid k0; clear k0
        by_cases k1 : p.tu = tu
        · have b1 : (p.tu == tu) = true := by rw [k1]; simp
          have HR : Hid (RS = (p, true)) := Lib.hid (by rw [← HR1.out, HD.out, if_pos ⟨K0.out, k1⟩])
          clear k1
          go_wp2_with (first | (refine wpList_load_row rfl 40 (.tmp 11) rfl g2 rfl 40 p.arr (0, 0) _ HX.out Tryz.underlying40 rfl p.info ?_) | (refine wpList_store_row rfl 40 (.tmp 8) (.tmp 30) rfl g p.arr rfl rfl 40 _ HGR.out p.info rfl p.one ?_))
          refine bodyPost_ret (results_vbt rfl rfl (setRow_heap _ _ _ p.arr _ _ HGR.out) rfl) rfl ?_
          exact ⟨by rw [HR.out]; rfl, by rw [HGG.out]; exact below_setRow HWW.out (Nat.le_refl _) _⟩
        · have b1 : (p.tu == tu) = false := by rw [beq_eq_false_iff_ne]; exact k1
          have HN : Hid (findV (act.drop (j + 1)) fr tu = RS) := Lib.hid (by rw [← HR1.out, HD.out, if_neg (fun h => k1 h.2)])
          clear k1
          go_wp2_with fail
          exact ⟨⟨j + 1, by omega, by go_num, Lib.hid ⟨HN.out, HBQ.out⟩⟩, by simp [intOf]; omega⟩
      · have b0 : (p.fr == fr) = false := by rw [beq_eq_false_iff_ne]; exact k0
        have HN : Hid (findV (act.drop (j + 1)) fr tu = RS) := Lib.hid (by rw [← HR1.out, HD.out, if_neg (fun h => k0 h.1)])
        clear k0
        go_wp2_with fail
        exact ⟨⟨j + 1, by omega, by go_num, Lib.hid ⟨HN.out, HBQ.out⟩⟩, by simp [intOf]; omega⟩
    · have hlt2 : ¬ (j : Int) < (n1 : Int) := by omega
      have HR : Hid (RS = (noVou, false)) := Lib.hid (by rw [← HQ.out.1, List.drop_eq_nil_of_le (by rw [HLN.out]; omega)]; rfl)
      go_wp2_with (refine wpList_store_row rfl 40 (.tmp 8) (.tmp 32) rfl g noVou.arr rfl rfl 40 _ HGR.out noVou.info rfl noVou.one ?_)
      refine bodyPost_ret (results_vbt rfl rfl (setRow_heap _ _ _ noVou.arr _ _ HGR.out) rfl) rfl ?_
      exact ⟨by rw [HR.out]; rfl, by rw [HGG.out]; exact below_setRow HWW.out (Nat.le_refl _) _⟩
end Go.Proofs.YtjmapbaofpilaaaGreat
/- What layer 10 gives is proved of the program's own functions. -/
namespace Go.Proofs.YtjmapbaofpilaaaGreat
open Go.RowKit
theorem vouchC : VouchC where
  vof A n c l w hl hn ho := vOf_any A n c l w hl hn ho
  gone A n c l tm w hl hn ho := vGone_any A n c l tm w hl hn ho
  active A n c l tm w hl hn ho := vActive_any A n c l tm w hl hn ho
  between A n c l fr tu tm w hl hn ho := vBetween_any A n c l fr tu tm w hl hn ho
end Go.Proofs.YtjmapbaofpilaaaGreat
