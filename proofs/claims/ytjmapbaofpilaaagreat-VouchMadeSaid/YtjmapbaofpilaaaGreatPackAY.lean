import Derived.Test.YtjmapbaofpilaaaGreatPackAU
import Derived.Test.YtjmapbaofpilaaaGreatPackAX
import Derived.Test.YtjmapbaofpilaaaGreatPackAA
import Derived.ProofKit
import Derived.OpenShut
import Derived.Carry
import Derived.Handed
import Derived.ChangeMaps5
import Derived.Test.YtjmapbaofpilaaaGreatPackAB
import Derived.Test.YtjmapbaofpilaaaGreatRows
import Derived.Deep.Slices
import Derived.Deep.Fields
import Derived.ChangeSame
import Derived.Test.YtjmapbaofpilaaaGreatPackAK
import Derived.Laws.IdiomArrays
/- The list of layer 10's sanity check. -/
namespace Go.Proofs.YtjmapbaofpilaaaGreat
open Go.RowKit
def pa10 : Pl := ⟨⟨0, 0, ⟨#[]⟩, 5, 1, 2, 3, 20, [], [], ⟨#[]⟩, 0, ⟨#[]⟩⟩, none, 0, 0, none, 0, 0⟩
def pb10 : Pl := ⟨⟨0, 0, ⟨#[]⟩, 9, 2, 0, 0, 0, [], [], ⟨#[]⟩, 0, ⟨#[]⟩⟩, none, 0, 0, none, 0, 0⟩
noncomputable def sa10 : Stm := sealOf ⟨1, 0, ⟨#[]⟩, 5, 1, 2, 3, 20, [], [], ⟨#[]⟩, 0, ⟨#[]⟩⟩
noncomputable def sb10 : Stm := sealOf ⟨1, 1, digS sa10, 9, 2, 0, 0, 0, [], [], ⟨#[]⟩, 0, ⟨#[]⟩⟩
theorem seal_sealed (s : Stm) : sealedB (sealOf s) = true := by
  show (decide (s.author = s.author) && decide (digS s = digS (sealOf s))) = true
  rw [decide_eq_true rfl, show digS (sealOf s) = digS s from rfl, decide_eq_true rfl]
  rfl
theorem sa10_ok : checkV sa10 = 0 := by kernel_rfl
theorem sb10_ok : checkV sb10 = 0 := by
  have h : (digS sa10).size = 32 := digS_size _
  unfold sb10 sealOf
  generalize digS sa10 = pr at *
  simp [checkV, isKeyB, isKindB, isTrustB, btw, rangeB, isValueB, listB', fitsB, formB, prevB, pinsB, h]
  rfl
theorem own_one : ownL 1 [sa10] = [sa10] := by
  unfold ownL
  rw [List.foldl_cons, List.foldl_nil, ownStep, if_pos ⟨rfl, sa10_ok, seal_sealed _⟩]
  rfl
theorem counted_one : countedR 1 [sa10] = [sa10] := by
  unfold countedR
  rw [own_one]
  rfl
theorem next_a : nextP 1 [] pa10.s = (sa10, 0) := by
  unfold nextP
  rw [if_neg (fun h => h.1 rfl), if_neg (fun h => h.1 rfl), if_neg (fun h => h.1 rfl), if_pos (by exact sa10_ok)]
  rfl
theorem next_b : nextP 1 [sa10] pb10.s = (sb10, 0) := by
  unfold nextP
  rw [if_neg (fun h => absurd h.2 (by rw [counted_one, sameLB_self]; decide)), if_neg (fun h => absurd h.2 (by decide +kernel)), if_neg (fun h => absurd h.2 (by decide +kernel)), if_pos (by exact sb10_ok)]
  rfl
theorem fold13n (p : Pl) : Array.foldl (fun (cs : Array Value) (x : Value × Nat) => cs.setIfInBounds x.snd x.fst) #[.int .i64 0, .int .i64 0, .string ⟨#[]⟩, .int .i64 0, .int .i64 0, .int .i64 0, .int .i64 0, .int .i64 0, .slice none 0 0, .slice none 0 0, .string ⟨#[]⟩, .int .i64 0, .string ⟨#[]⟩] p.arr.zipIdx 0 13 = p.arr := fold13 p
theorem ord10_two : Ord10 [sa10, sb10] := by
  refine ⟨fun s hs => ?_, ⟨fun h => absurd h (by decide +kernel), fun _ => ⟨sa10, rfl, rfl, rfl, by decide +kernel⟩, trivial⟩, ?_⟩
  · rcases List.mem_cons.1 hs with rfl | hs
    · exact sa10_ok
    · rw [List.mem_singleton.1 hs]; exact sb10_ok
  · refine List.pairwise_cons.2 ⟨fun b hb => ?_, List.pairwise_singleton _ _⟩
    rw [List.mem_singleton.1 hb]
    exact .inr ⟨rfl, by decide +kernel⟩
theorem pa10_small : Small pa10.s := ⟨by decide, by decide, by decide, by decide, by decide, by decide⟩
theorem pb10_small : Small pb10.s := ⟨by decide, by decide, by decide, by decide, by decide, by decide⟩
theorem pa10_ok (w : World) : PlOk w pa10 := ⟨Row.nilRow _ _, Row.nilRow _ _⟩
theorem pb10_ok (w : World) : PlOk w pb10 := ⟨Row.nilRow _ _, Row.nilRow _ _⟩
theorem sa10_small : Small sa10 := seal_small7 ⟨by decide, by decide, by decide, by decide, by decide, by decide⟩
set_option maxRecDepth 100000 in
set_option maxHeartbeats 4000000 in
theorem list10_any (w : World) : Calls Tryz.prog 11 #[] w fun e w' => ∃ A c l, e = .returned (.slice A 2 c) ∧ l.map (·.s) = [sa10, sb10] ∧ LRow w' A 2 c l ∧ Below w.heap.size w w' := by
  go_enter Tryz.func11, Tryz.ntmps11
  go_wp2_with fail
  refine (nextP_any 1 none 0 0 [] pa10 w (LRow.nil _) (by omega) (fun _ h => (nomatch h)) (pa10_ok _) pa10_small).mono ?_
  rw [List.map_nil, next_a]
  rintro e w1 ⟨q, rfl, hqs, hqo, -, -, hb⟩
  go_upto_region 2 with (refine wpList_store_new rfl 58 (.tmp 1) (.tmp 8) rfl 58 _ q.arr rfl rfl q.info rfl q.one ?_)
  have HN1 := Lib.hid (one_new w1 (.cells q.arr 58))
  have HX1 : Hid ((w1.alloc (.cells q.arr 58)).heap[w1.heap.size]? = some (.cells q.arr 58 (0, 0))) := Lib.hid (heap_alloc_new _ _)
  have HB1 := Lib.hid (hb.trans (HN1.out.mono hb.size)); have HQO := Lib.hid (hqo.later HN1.out); have HQS := Lib.hid hqs
  clear hb hqo hqs HN1
  generalize w1.alloc (.cells q.arr 58) = x1 at *
  generalize w1.heap.size = g1 at *
  have hvs : q.arr.size = 13 := rfl
  go_wp2_with (refine wpList_load_row rfl 58 (.tmp 1) rfl g1 rfl 58 q.arr (0, 0) _ HX1.out Tryz.underlying58 rfl q.info ?_)
  (first | rw [fold13n] | rw [fold13])
  have HN2 := Lib.hid (one_new x1 (.cells q.arr 58))
  have HR2 : Hid (LRow (x1.alloc (.cells q.arr 58)) (some ⟨x1.heap.size, 0, none⟩) 1 1 [q]) := Lib.hid ⟨Row.of_block (heap_alloc_new _ _) rfl, fun p hp => by rw [List.mem_singleton.1 hp]; exact HQO.out.later HN2.out⟩
  have HX2 : Hid ((x1.alloc (.cells q.arr 58)).heap[g1]? = some (.cells q.arr 58 (0, 0))) := Lib.hid ((HN2.out.block _ (Array.getElem?_eq_some_iff.1 HX1.out).1).trans HX1.out)
  replace HQO := Lib.hid (HQO.out.later HN2.out); replace HB1 := Lib.hid (HB1.out.trans (HN2.out.mono HB1.out.size))
  have HMQ : Hid ([q].map (·.s) = [sa10]) := Lib.hid (by rw [List.map_cons, List.map_nil, HQS.out])
  clear HN2 HX1 hvs
  generalize x1.alloc (.cells q.arr 58) = x2 at *
  refine (nextP_any 1 _ 1 1 [q] pb10 x2 HR2.out (by omega) (fun p hp => by rw [List.mem_singleton.1 hp, HQS.out]; exact sa10_small) (pb10_ok _) pb10_small).mono ?_
  rw [HMQ.out, next_b]
  rintro e w3 ⟨r, rfl, hrs, hro, -, -, hb⟩
  have HX3 : Hid (w3.heap[g1]? = some (.cells q.arr 58 (0, 0))) := Lib.hid ((hb.block _ (Array.getElem?_eq_some_iff.1 HX2.out).1).trans HX2.out)
  have HRS := Lib.hid hrs
  have HB3 := Lib.hid (HB1.out.trans (hb.mono HB1.out.size)); have HRO := Lib.hid hro
  replace HQO := Lib.hid (HQO.out.later hb)
  clear hrs hro hb HR2 HX2 HB1
  go_upto_region 3 with (refine wpList_store_new rfl 58 (.tmp 3) (.tmp 15) rfl 58 _ r.arr rfl rfl r.info rfl r.one ?_)
  have HN4 := Lib.hid (one_new w3 (.cells r.arr 58))
  have HY4 : Hid ((w3.alloc (.cells r.arr 58)).heap[w3.heap.size]? = some (.cells r.arr 58 (0, 0))) := Lib.hid (heap_alloc_new _ _)
  have HX4 : Hid ((w3.alloc (.cells r.arr 58)).heap[g1]? = some (.cells q.arr 58 (0, 0))) := Lib.hid ((HN4.out.block _ (Array.getElem?_eq_some_iff.1 HX3.out).1).trans HX3.out)
  replace HQO := Lib.hid (HQO.out.later HN4.out); replace HRO := Lib.hid (HRO.out.later HN4.out); replace HB3 := Lib.hid (HB3.out.trans (HN4.out.mono HB3.out.size))
  clear HN4 HX3
  generalize w3.alloc (.cells r.arr 58) = z4 at *
  generalize w3.heap.size = g2 at *
  obtain ⟨l2, hl2⟩ : ∃ l2, l2 = [q, r] := ⟨_, rfl⟩
  have HML : Hid (l2.map (·.s) = [sa10, sb10]) := Lib.hid (by rw [hl2, List.map_cons, List.map_cons, List.map_nil, HQS.out, HRS.out])
  have HOL : Hid (∀ y, Below z4.heap.size z4 y → ∀ p ∈ l2, PlOk y p) := Lib.hid fun y hy p hp => by
    rw [hl2] at hp
    rcases List.mem_cons.1 hp with rfl | hp
    · exact HQO.out.later hy
    · rw [List.mem_singleton.1 hp]; exact HRO.out.later hy
  have HLE := Lib.hid hl2
  clear hl2 HQS HRS HQO HRO
  obtain ⟨⟨x0, x1, x2, x3, x4, x5, x6, x7, x8, x9, x10, x11, x12⟩, XA, xn, xc, XB, xm, xk⟩ := q
  obtain ⟨⟨y0, y1, y2, y3, y4, y5, y6, y7, y8, y9, y10, y11, y12⟩, YA, yn, yc, YB, ym, yk⟩ := r
  have hc0 : z4.cell? ⟨g1, 0, none⟩ = some (.int .i64 x0) := (cell_of_row _ _ 0 _ _ _ HX4.out).trans rfl
  have hc1 : z4.cell? ⟨g1, 1, none⟩ = some (.int .i64 x1) := (cell_of_row _ _ 1 _ _ _ HX4.out).trans rfl
  have hc2 : z4.cell? ⟨g1, 2, none⟩ = some (.string x2) := (cell_of_row _ _ 2 _ _ _ HX4.out).trans rfl
  have hc3 : z4.cell? ⟨g1, 3, none⟩ = some (.int .i64 x3) := (cell_of_row _ _ 3 _ _ _ HX4.out).trans rfl
  have hc4 : z4.cell? ⟨g1, 4, none⟩ = some (.int .i64 x4) := (cell_of_row _ _ 4 _ _ _ HX4.out).trans rfl
  have hc5 : z4.cell? ⟨g1, 5, none⟩ = some (.int .i64 x5) := (cell_of_row _ _ 5 _ _ _ HX4.out).trans rfl
  have hc6 : z4.cell? ⟨g1, 6, none⟩ = some (.int .i64 x6) := (cell_of_row _ _ 6 _ _ _ HX4.out).trans rfl
  have hc7 : z4.cell? ⟨g1, 7, none⟩ = some (.int .i64 x7) := (cell_of_row _ _ 7 _ _ _ HX4.out).trans rfl
  have hc8 : z4.cell? ⟨g1, 8, none⟩ = some (.slice XA xn xc) := (cell_of_row _ _ 8 _ _ _ HX4.out).trans rfl
  have hc9 : z4.cell? ⟨g1, 9, none⟩ = some (.slice XB xm xk) := (cell_of_row _ _ 9 _ _ _ HX4.out).trans rfl
  have hc10 : z4.cell? ⟨g1, 10, none⟩ = some (.string x10) := (cell_of_row _ _ 10 _ _ _ HX4.out).trans rfl
  have hc11 : z4.cell? ⟨g1, 11, none⟩ = some (.int .i64 x11) := (cell_of_row _ _ 11 _ _ _ HX4.out).trans rfl
  have hc12 : z4.cell? ⟨g1, 12, none⟩ = some (.string x12) := (cell_of_row _ _ 12 _ _ _ HX4.out).trans rfl
  have hd0 : z4.cell? ⟨g2, 0, none⟩ = some (.int .i64 y0) := (cell_of_row _ _ 0 _ _ _ HY4.out).trans rfl
  have hd1 : z4.cell? ⟨g2, 1, none⟩ = some (.int .i64 y1) := (cell_of_row _ _ 1 _ _ _ HY4.out).trans rfl
  have hd2 : z4.cell? ⟨g2, 2, none⟩ = some (.string y2) := (cell_of_row _ _ 2 _ _ _ HY4.out).trans rfl
  have hd3 : z4.cell? ⟨g2, 3, none⟩ = some (.int .i64 y3) := (cell_of_row _ _ 3 _ _ _ HY4.out).trans rfl
  have hd4 : z4.cell? ⟨g2, 4, none⟩ = some (.int .i64 y4) := (cell_of_row _ _ 4 _ _ _ HY4.out).trans rfl
  have hd5 : z4.cell? ⟨g2, 5, none⟩ = some (.int .i64 y5) := (cell_of_row _ _ 5 _ _ _ HY4.out).trans rfl
  have hd6 : z4.cell? ⟨g2, 6, none⟩ = some (.int .i64 y6) := (cell_of_row _ _ 6 _ _ _ HY4.out).trans rfl
  have hd7 : z4.cell? ⟨g2, 7, none⟩ = some (.int .i64 y7) := (cell_of_row _ _ 7 _ _ _ HY4.out).trans rfl
  have hd8 : z4.cell? ⟨g2, 8, none⟩ = some (.slice YA yn yc) := (cell_of_row _ _ 8 _ _ _ HY4.out).trans rfl
  have hd9 : z4.cell? ⟨g2, 9, none⟩ = some (.slice YB ym yk) := (cell_of_row _ _ 9 _ _ _ HY4.out).trans rfl
  have hd10 : z4.cell? ⟨g2, 10, none⟩ = some (.string y10) := (cell_of_row _ _ 10 _ _ _ HY4.out).trans rfl
  have hd11 : z4.cell? ⟨g2, 11, none⟩ = some (.int .i64 y11) := (cell_of_row _ _ 11 _ _ _ HY4.out).trans rfl
  have hd12 : z4.cell? ⟨g2, 12, none⟩ = some (.string y12) := (cell_of_row _ _ 12 _ _ _ HY4.out).trans rfl
  have HBZ := Lib.hid (one_new z4 (.cells #[.int .i64 x0, .int .i64 x1, .string x2, .int .i64 x3, .int .i64 x4, .int .i64 x5, .int .i64 x6, .int .i64 x7, .slice XA xn xc, .slice XB xm xk, .string x10, .int .i64 x11, .string x12, .int .i64 y0, .int .i64 y1, .string y2, .int .i64 y3, .int .i64 y4, .int .i64 y5, .int .i64 y6, .int .i64 y7, .slice YA yn yc, .slice YB ym yk, .string y10, .int .i64 y11, .string y12] 58))
  have HRZ : Hid (LRow (z4.alloc (.cells #[.int .i64 x0, .int .i64 x1, .string x2, .int .i64 x3, .int .i64 x4, .int .i64 x5, .int .i64 x6, .int .i64 x7, .slice XA xn xc, .slice XB xm xk, .string x10, .int .i64 x11, .string x12, .int .i64 y0, .int .i64 y1, .string y2, .int .i64 y3, .int .i64 y4, .int .i64 y5, .int .i64 y6, .int .i64 y7, .slice YA yn yc, .slice YB ym yk, .string y10, .int .i64 y11, .string y12] 58)) (some ⟨z4.heap.size, 0, none⟩) 2 2 l2) := Lib.hid ⟨by
    have h := Row.of_block (n := 2) (sz := 13) (heap_alloc_new z4 (.cells #[.int .i64 x0, .int .i64 x1, .string x2, .int .i64 x3, .int .i64 x4, .int .i64 x5, .int .i64 x6, .int .i64 x7, .slice XA xn xc, .slice XB xm xk, .string x10, .int .i64 x11, .string x12, .int .i64 y0, .int .i64 y1, .string y2, .int .i64 y3, .int .i64 y4, .int .i64 y5, .int .i64 y6, .int .i64 y7, .slice YA yn yc, .slice YB ym yk, .string y10, .int .i64 y11, .string y12] 58)) rfl
    rw [HLE.out]; exact h, HOL.out _ (one_new _ _)⟩
  go_wp2_with fail
  go_ret
  exact ⟨_, _, l2, rfl, HML.out, HRZ.out, HB3.out.trans (HBZ.out.mono HB3.out.size)⟩
end Go.Proofs.YtjmapbaofpilaaaGreat
/- Layer 10's sanity check, over any program that gives what layer 10 asks. -/
namespace Go.Proofs.YtjmapbaofpilaaaGreat
open Go.RowKit
def vou0 : Vou := ⟨1, 2, 3, 0, 5, 20, 9⟩
theorem vouches_two : vouchesS [sa10, sb10] = [vou0] := by kernel_rfl
theorem active_8 : activeS [sa10, sb10] 8 = [vou0] := by kernel_rfl
theorem active_9 : activeS [sa10, sb10] 9 = [] := by kernel_rfl
theorem between_8 : betweenS [sa10, sb10] 1 2 8 = (vou0, true) := by unfold betweenS; rw [active_8]; rfl
set_option maxRecDepth 100000 in
set_option maxHeartbeats 4000000 in
theorem awake10_any (H : VouchC) (w : World) : Calls Tryz.prog 5 #[] w (SaysL (.bool true) w) := by
  have HO := Lib.hid ord10_two; have HV2 := Lib.hid vouches_two; have HA8 := Lib.hid active_8; have HA9 := Lib.hid active_9; have HB8 := Lib.hid between_8
  go_enter Tryz.func5, Tryz.ntmps5
  go_wp2_with fail
  refine (list10_any w).mono ?_
  generalize sa10 = sa at *
  generalize sb10 = sb at *
  rintro e w1 ⟨A, c, l, rfl, hm, hl, hb⟩
  rw [← hm] at HO HV2 HA8 HA9 HB8
  have HL := Lib.hid hl; have HB := Lib.hid hb
  clear hl hb hm
  go_wp2_with fail
  refine (H.vof A 2 c l w1 HL.out (by omega) HO.out).mono ?_
  rw [HV2.out]
  rintro e w2 ⟨A2, n2, c2, rfl, hv, hb⟩
  have hn2 : n2 = 1 := (VRow.len hv).symm
  have HN2 := Lib.hid hn2
  have n2a : ((n2 : Int) == 1) = true := by rw [hn2]; rfl
  have n2b : 0 < n2 := by omega
  clear hn2
  have HV := Lib.hid hv
  replace HL := Lib.hid (HL.out.later hb); replace HB := Lib.hid (HB.out.trans (hb.mono HB.out.size))
  clear hv hb HV2
  go_wp2_with fail
  refine (H.between A 2 c l 1 2 8 w2 HL.out (by omega) HO.out).mono ?_
  rw [HB8.out]
  rintro e w3 ⟨rfl, hb⟩
  replace HL := Lib.hid (HL.out.later hb); replace HV := Lib.hid (GRow.later HV.out hb); replace HB := Lib.hid (HB.out.trans (hb.mono HB.out.size))
  clear hb HB8
  go_upto_region 3 with (refine wpList_store_new rfl 40 (.tmp 3) (.tmp 11) rfl 40 _ vou0.arr rfl rfl vou0.info rfl vou0.one ?_)
  have HN4 := Lib.hid (one_new w3 (.cells vou0.arr 40))
  have HX : Hid ((w3.alloc (.cells vou0.arr 40)).heap[w3.heap.size]? = some (.cells vou0.arr 40 (0, 0))) := Lib.hid (heap_alloc_new _ _)
  replace HL := Lib.hid (HL.out.later HN4.out); replace HV := Lib.hid (GRow.later HV.out HN4.out); replace HB := Lib.hid (HB.out.trans (HN4.out.mono HB.out.size))
  clear HN4
  generalize w3.alloc (.cells vou0.arr 40) = w4 at *
  generalize w3.heap.size = g at *
  obtain ⟨b, off, hA, hc⟩ := GRow.cells Vou.len (by decide) HV.out noVou 0 (by have := HN2.out; omega)
  subst hA
  have HC6 : Hid (w4.cell? ⟨b, off + 6, none⟩ = some (.int .i64 9)) := Lib.hid (hc 6 (by decide))
  have hc6 := HC6.out
  have hc2 : w4.cell? ⟨b, off + 2, none⟩ = some (.int .i64 3) := hc 2 (by decide)
  clear hc HC6
  go_wp2_with fail
  go_simp
  go_wp2_with fail
  go_simp
  go_wp2_with fail
  refine (H.active A 2 c l 8 w4 HL.out (by omega) HO.out).mono ?_
  rw [HA8.out]
  rintro e w5 ⟨A3, n3, c3, rfl, hv, hb⟩
  have hn3 : n3 = 1 := (VRow.len hv).symm
  subst hn3
  replace HL := Lib.hid (HL.out.later hb); replace HB := Lib.hid (HB.out.trans (hb.mono HB.out.size))
  replace HX := Lib.hid ((hb.block _ (Array.getElem?_eq_some_iff.1 HX.out).1).trans HX.out)
  clear hv hb HA8 HV
  go_wp2_with fail
  refine (H.active A 2 c l 9 w5 HL.out (by omega) HO.out).mono ?_
  rw [HA9.out]
  rintro e w6 ⟨A4, n4, c4, rfl, hv, hb⟩
  have hn4 : n4 = 0 := (VRow.len hv).symm
  subst hn4
  replace HB := Lib.hid (HB.out.trans (hb.mono HB.out.size))
  replace HX := Lib.hid ((hb.block _ (Array.getElem?_eq_some_iff.1 HX.out).1).trans HX.out)
  clear hv hb HA9 HL
  have hd5 : w6.cell? ⟨g, 5, none⟩ = some (.int .i64 20) := (cell_of_row _ _ 5 _ _ _ HX.out).trans rfl
  go_wp2_with fail
  go_ret
  exact ⟨rfl, HB.out⟩
end Go.Proofs.YtjmapbaofpilaaaGreat
/- The walk of the law VouchMade, over any program that gives what layer 10 asks. -/
namespace Go.Proofs.YtjmapbaofpilaaaGreat
open Go.RowKit
set_option maxRecDepth 100000 in
set_option maxHeartbeats 4000000 in
theorem vmade_any (H : VouchC) (TA : Option Addr) (tn tc : Nat) (t : List Int) (tm n0 n1 : Int) (w : World) (ht : IRow w TA tn tc t) :
    Calls Tryz.prog 3 #[.slice TA tn tc, .int .i64 tm, .agg #[.int .i64 n0, .int .i64 n1]] w (SaysL (.bool true) w) := by
  have HAW : Hid (∀ y, Calls Tryz.prog 5 #[] y (SaysL (.bool true) y)) := Lib.hid fun y => awake10_any H y
  have HNW := Lib.hid (one_new w (.cells #[.int .i64 n0, .int .i64 n1] 23))
  have HG : Hid ((w.alloc (.cells #[.int .i64 n0, .int .i64 n1] 23)).heap[w.heap.size]? = some (.cells #[.int .i64 n0, .int .i64 n1] 23 (0, 0))) := Lib.hid (heap_alloc_new _ _)
  have HT := Lib.hid (ht.later HNW.out); clear ht
  go_enter Tryz.func3, Tryz.ntmps3
  go_wp2_with fail
  generalize w.alloc (.cells #[.int .i64 n0, .int .i64 n1] 23) = y0 at *
  generalize hgg : w.heap.size = g at HG
  have HGE := Lib.hid hgg
  have HGY : Hid (g < y0.heap.size) := Lib.hid (Array.getElem?_eq_some_iff.1 HG.out).1
  refine (light_any TA tn tc y0).mono ?_
  rintro e w0 ⟨rfl, rfl⟩
  by_cases hn : tn ≤ 400
  · have gd : decide (tn ≤ 400) = true := decide_eq_true hn
    go_wp2_with fail
    clear gd
    refine (roll_any y0.heap.size TA tn tc t y0 HT.out (by omega) (Nat.le_refl _) (fun ad e h0 => Row.lt HT.out (by decide) ad e h0)).mono ?_
    rintro e w1 ⟨rfl, hd, hb⟩
    obtain ⟨D, hD⟩ : ∃ D, D = y0.heap.size := ⟨_, rfl⟩
    have HD : Hid (∃ k, DiceAt w1 y0.heap.size D t k) := Lib.hid ⟨0, by rw [hD]; exact hd⟩
    have HB := Lib.hid hb
    have HDD : Hid (y0.heap.size = D) := Lib.hid hD.symm
    rw [← hD]
    clear hd hb hD HT
    go_wp2_with fail
    refine (dstore_g y0.heap.size D t 6 w1 HD.out (by omega)).mono ?_
    rintro e w2 ⟨A2, c2, l2, rfl, hr2, hs2, hl2, hg⟩
    have HB2 := Lib.hid (HB.out.trans (hg.2.below (by have := HDD.out; omega) HB.out.size)); have HD2 := Lib.hid hg.1
    have HR2 := Lib.hid hr2; have HS2 := Lib.hid hs2
    clear hr2 hs2 hg HB HD
    go_wp2_with fail
    refine (countedAll_hi A2 l2.length c2 l2 w2 HR2.out (by omega) HS2.out).mono ?_
    rintro e w4 ⟨v, l, rfl, hm, ho, hhi, hb⟩
    obtain ⟨A, c, hv, hr⟩ := ho.row
    subst hv
    have HDL : Hid (D < w2.heap.size) := Lib.hid (by obtain ⟨k, hk⟩ := HD2.out; exact hk.lt)
    have HL := Lib.hid hr; have HLO : Hid (∀ ad, A = some ad → w2.heap.size ≤ ad.block) := Lib.hid ho.low; have HHI := Lib.hid hhi
    have HB := Lib.hid (HB2.out.trans (hb.mono HB2.out.size)); have HD : Hid (∃ k, DiceAt w4 y0.heap.size D t k) := Lib.hid (by obtain ⟨k, hk⟩ := HD2.out; exact ⟨k, hk.later hb⟩)
    have HO : Hid (Ord10 (l.map (·.s))) := Lib.hid (by rw [hm]; exact ord10_counted _)
    have hln : l.length ≤ 100000 := by
      have h1 := countedUp_len (l2.map (·.s)) 64
      rw [List.length_map] at h1
      have h2 := congrArg List.length hm
      rw [List.length_map] at h2
      have h3 : (countedAll (l2.map (·.s))).length = (countedUp (l2.map (·.s)) 64).length := rfl
      omega
    generalize w2.heap.size = P at *
    clear hm ho hhi hb hr HR2 HS2 HB2 HD2 hl2
    go_wp2_with fail
    go_loopw [9] (fun i9 wr => ∃ i : Nat, i ≤ 4 ∧ i9 = .int .i64 i ∧ Hid (LRow wr A l.length c l ∧ (∃ k, DiceAt wr y0.heap.size D t k) ∧ Below y0.heap.size y0 wr)) (fun i9 _ => 4 - (intOf i9).toNat)
    case atStart => exact ⟨0, Nat.zero_le _, rfl, Lib.hid ⟨HL.out, HD.out, HB.out⟩⟩
    case round =>
      clear HL HD HB
      obtain ⟨i, hi, rfl, HQ⟩ := hrel
      by_cases hil : i < 4
      · have hil2 : (i : Int) < 4 := by omega
        have HD := Lib.hid HQ.out.2.1; have HL := Lib.hid HQ.out.1; have HB := Lib.hid HQ.out.2.2
        clear HQ
        go_wp2_with fail
        refine (next_g y0.heap.size D t 5 wr HD.out (by omega) (by omega)).mono ?_
        rintro e wn0 ⟨x0, rfl, -, -, hg⟩
        replace HD := Lib.hid hg.1; replace HL := Lib.hid (HL.out.butD HLO.out HHI.out hg.2 HDL.out); replace HB := Lib.hid (HB.out.trans (hg.2.below (by have := HDD.out; omega) HB.out.size))
        clear hg
        go_wp2_with fail
        refine (next_g y0.heap.size D t 6 wn0 HD.out (by omega) (by omega)).mono ?_
        rintro e wn1 ⟨x1, rfl, -, -, hg⟩
        replace HD := Lib.hid hg.1; replace HL := Lib.hid (HL.out.butD HLO.out HHI.out hg.2 HDL.out); replace HB := Lib.hid (HB.out.trans (hg.2.below (by have := HDD.out; omega) HB.out.size))
        clear hg
        go_wp2_with fail
        refine (next_g y0.heap.size D t 80 wn1 HD.out (by omega) (by omega)).mono ?_
        rintro e wn2 ⟨x2, rfl, -, -, hg⟩
        replace HD := Lib.hid hg.1; replace HL := Lib.hid (HL.out.butD HLO.out HHI.out hg.2 HDL.out); replace HB := Lib.hid (HB.out.trans (hg.2.below (by have := HDD.out; omega) HB.out.size))
        clear hg
        go_wp2_with fail
        refine (agree10_any H A l.length c l x0 x1 x2 wn2 HL.out hln HO.out).mono ?_
        rintro e wz ⟨rfl, hb⟩
        replace HD : Hid (∃ k, DiceAt wz y0.heap.size D t k) := Lib.hid (by obtain ⟨k, hk⟩ := HD.out; exact ⟨k, hk.later hb⟩)
        replace HL := Lib.hid (HL.out.later hb); replace HB := Lib.hid (HB.out.trans (hb.mono HB.out.size))
        clear hb
        go_wp2_with fail
        exact ⟨⟨i + 1, by omega, by go_num, Lib.hid ⟨HL.out, HD.out, HB.out⟩⟩, by simp [intOf]; omega⟩
      · have hil2 : ¬ (i : Int) < 4 := by omega
        have HL := Lib.hid HQ.out.1; have HB := Lib.hid HQ.out.2.2
        clear HQ
        go_wp2_with fail
        refine (HAW.out wr).mono ?_
        rintro e wa ⟨rfl, hb⟩
        replace HL := Lib.hid (HL.out.later hb); replace HB := Lib.hid (HB.out.trans (hb.mono HB.out.size))
        have HX : Hid (wa.heap[g]? = some (.cells #[.int .i64 n0, .int .i64 n1] 23 (0, 0))) := Lib.hid ((HB.out.block _ HGY.out).trans HG.out)
        have hc0 : wa.cell? ⟨g, 0, none⟩ = some (.int .i64 n0) := (cell_of_row _ _ 0 _ _ _ HX.out).trans rfl
        have hc1 : wa.cell? ⟨g, 1, none⟩ = some (.int .i64 n1) := (cell_of_row _ _ 1 _ _ _ HX.out).trans rfl
        clear hb
        go_wp2_with fail
        refine (agree10_any H A l.length c l n0 n1 tm wa HL.out hln HO.out).mono ?_
        rintro e wz ⟨rfl, hb⟩
        replace HB := Lib.hid (HB.out.trans (hb.mono HB.out.size))
        clear hb hc0 hc1 HX
        go_wp2_with fail
        go_ret
        exact ⟨rfl, HNW.out.trans (HB.out.mono HNW.out.size)⟩
  · have gd : decide (tn ≤ 400) = false := decide_eq_false hn
    go_wp2_with fail
    clear gd
    refine (HAW.out y0).mono ?_
    rintro e w1 ⟨rfl, hb⟩
    have HB := Lib.hid hb; clear hb
    go_wp2_with fail
    go_ret
    exact ⟨rfl, HNW.out.trans (HB.out.mono HNW.out.size)⟩
end Go.Proofs.YtjmapbaofpilaaaGreat
/- What a law's arguments are as rows of cells; what is asked of them behind the call. Plain facts over any program. -/
namespace Go.Proofs.YtjmapbaofpilaaaGreat
open Go.ChangeShapes Go.WideShapes Go.ChangeAt Go.RowKit
section
variable {H : Type} {enc : TypeId × Value → H} {P : Program} {W W' : World}
/-- A slice of numbers of one kind that came in. -/
theorem open_nums {t e : TypeId} {k : IntKind} (ht : P.underlying t = some (.slice e)) (he : P.underlying e = some (.int k)) (hc : P.cellsOf e = 1) {base : Nat} {v : Value} {d : DataW H} {p : List MemPlace}
    (hval : Value.okWide P W .any base t v) (h : DataW.Trod enc P W 0 (fun _ => true) true t v d p) :
    ∃ (A : Option Addr) (n c : Nat) (zs : List Int), v = .slice A n c ∧ zs.length = n ∧ Row W A n c 1 (zs.map (Value.int k)) ∧ c ≤ maxLen ∧ ∀ z ∈ zs, (Lit.int k z).wf = true := by
  obtain ⟨a1, len, cap, rfl⟩ := okWide_slice ht hval
  obtain ⟨fuel, hf⟩ := h
  rcases open_ints ht he hc hf with ⟨hcs, hx⟩ | ⟨a, len', cap', zs, hcs, _, hl, hm, hz, hx, hcell, hwz⟩
  · simp [Value.cells] at hcs
    obtain ⟨rfl, rfl, rfl⟩ := hcs
    exact ⟨none, 0, 0, [], rfl, rfl, Row.nilRow _ _, Nat.zero_le _, fun _ h => by cases h⟩
  · simp [Value.cells] at hcs
    obtain ⟨rfl, rfl, rfl⟩ := hcs
    simp only [if_true] at hz
    refine ⟨some a, len, cap, zs.take len, rfl, by rw [List.length_take]; omega, ⟨by simp; omega, hl, fun e => (by cases e), fun ad e h0 => ?_⟩, hm, fun z hz' => hwz z (List.mem_of_mem_take hz')⟩
    injection e with e; subst e
    obtain ⟨ab, ao, spot⟩ := a
    have hspot : spot = none := by simpa [Addr.add] using World.cell?_spot (hcell 0 (by omega))
    subst hspot
    refine ⟨ab, ao, rfl, fun i hi => ?_⟩
    rw [Nat.mul_one] at hi
    have := hcell i (by omega)
    rw [Addr.add_lit] at this
    rw [this, List.getElem?_map, List.getElem?_take, if_pos hi, List.getElem?_eq_getElem (by omega)]
    simp [show i < zs.length by omega]
theorem open_i64s {t e : TypeId} (ht : P.underlying t = some (.slice e)) (he : P.underlying e = some (.int .i64)) (hc : P.cellsOf e = 1) {base : Nat} {v : Value} {d : DataW H} {p : List MemPlace}
    (hval : Value.okWide P W .any base t v) (h : DataW.Trod enc P W 0 (fun _ => true) true t v d p) : ∃ (A : Option Addr) (n c : Nat) (l : List Int), v = .slice A n c ∧ Row W A n c 1 (intsV l) ∧ c ≤ maxLen ∧ ∀ z ∈ l, -9223372036854775808 ≤ z ∧ z ≤ 9223372036854775807 := by
  obtain ⟨A, n, c, zs, rfl, _, hr, hm, hw⟩ := open_nums ht he hc hval h
  exact ⟨A, n, c, zs, rfl, hr, hm, fun z hz => bounds_i64 (hw z hz)⟩
theorem trodAll_below (hl : laidOutB P = true) (hb : Below W.heap.size W W') : ∀ {ts : List TypeId} {vs : List Value} {ds : List (DataW H)} {ps : List MemPlace}, (ts.all fun t => P.readableRec t && decide (t < P.types.size)) = true →
    DataW.TrodAll enc P W 0 (fun _ => true) true ts vs ds ps → DataW.TrodAll enc P W' 0 (fun b => decide (b < W.heap.size)) true ts vs ds ps
  | [], [], [], _, _, h => h
  | t :: ts, v :: vs, d :: ds, ps, hB, h => by
    have hlt := DataW.TrodAll.lt h
    obtain ⟨a, b, h1, h2, e⟩ := h
    simp only [List.all_cons, Bool.and_eq_true, decide_eq_true_eq] at hB
    subst e
    exact ⟨a, b, Below.trod hl hB.1.1 hB.1.2 h1 hb (fun x hx => hlt x (List.mem_append_left _ hx)), trodAll_below hl hb (by simpa using hB.2) h2, rfl⟩
/-- Behind a law that answered true and left below the old heap all as it was. -/
theorem law_post {f : Func} {s : ChangeSpec} {tb : TypeId} (hl : laidOutB P = true) (hres : f.resultTypes = #[tb]) (htb : P.underlying tb = some .bool) (hts : (f.params.toList.all fun t => P.readableRec t && decide (t < P.types.size)) = true) (hv : s.vars = [])
    {args : Array Value} {ds gs : List (DataW H)} {before : List MemPlace} (hW : DataW.Whole enc P f.params.toList s.vars false W args.toList ds gs before) (hfn : s.fn H (ds ++ gs) = { results := [.lit (.bool true)], args := ds }) (hb : Below W.heap.size W W') :
    ∃ v, Ending.returned (.bool true) = Ending.returned v ∧ s.post enc P f false true false false W args v W' := by
  have hW' := hW
  obtain ⟨p, q, hA, hV, rfl, _, _⟩ := hW
  refine ⟨_, rfl, ds, gs, _, [], p, [], hW', ?_, ?_, ?_, hb.frame _, fun h => by cases h⟩
  · rw [hfn, hres]; exact trodAll_mk1 (shut_bool htb _)
  · rw [hfn]; exact trodAll_below hl hb hts hA
  · rw [hfn, hv]; exact rfl
end
end Go.Proofs.YtjmapbaofpilaaaGreat
/- A statement that came in as an argument: its parts and how much it is. -/
namespace Go.Proofs.YtjmapbaofpilaaaGreat
open Go.ChangeShapes Go.WideShapes Go.RowKit Go.Deep
section
variable {H : Type} {enc : TypeId × Value → H} {W : World}
theorem cellsInt : Tryz.prog.cellsOf 3 = 1 := by kernel_rfl
end
end Go.Proofs.YtjmapbaofpilaaaGreat
/- A list of statements that came in as an argument. -/
namespace Go.Proofs.YtjmapbaofpilaaaGreat
open Go.ChangeShapes Go.WideShapes Go.RowKit Go.Deep
section
variable {H : Type} {enc : TypeId × Value → H} {W : World}
end
end Go.Proofs.YtjmapbaofpilaaaGreat
/- An array of two numbers that came in as an argument. -/
namespace Go.Proofs.YtjmapbaofpilaaaGreat
open Go.ChangeShapes Go.WideShapes Go.RowKit Go.Deep
section
variable {H : Type} {enc : TypeId × Value → H} {W : World}
theorem trod_pair {P : Program} {w : World} {base : Nat} {spare : Nat → Bool} {held : Bool} {t e : TypeId} {fuel : Nat} {c0 c1 : Value} {x : DataW H × List MemPlace} (ht : P.underlying t = some (.array 2 e)) (hce : P.cellsOf e = 1)
    (h : DataW.trod enc P w base spare held fuel t [c0, c1] = some x) : ∃ y0 y1 n, DataW.trod enc P w base spare held n e [c0] = some y0 ∧ DataW.trod enc P w base spare held n e [c1] = some y1 := by
  cases fuel with
  | zero => simp [DataW.trod] at h
  | succ n =>
    unfold DataW.trod at h
    rw [ht] at h
    simp [show List.range 2 = [0, 1] from rfl, hce] at h
    obtain ⟨_, h⟩ := h
    cases h0 : DataW.trod enc P w base spare held n e [c0] with
    | none => simp [h0] at h
    | some y0 =>
      cases h1 : DataW.trod enc P w base spare held n e [c1] with
      | none => simp [h0, h1] at h
      | some y1 => exact ⟨y0, y1, n, h0, h1⟩
theorem cellsTwo : Tryz.prog.cellsOf 23 = 2 := by kernel_rfl
set_option maxRecDepth 100000 in
theorem open_pair {base : Nat} {v : Value} {d : DataW H} {p : List MemPlace} (hval : Value.okWide Tryz.prog W .any base 23 v) (h : DataW.Trod enc Tryz.prog W 0 (fun _ => true) true 23 v d p) :
    ∃ a b : Int, v = .agg #[.int .i64 a, .int .i64 b] ∧ (-9223372036854775808 ≤ a ∧ a ≤ 9223372036854775807) ∧ (-9223372036854775808 ≤ b ∧ b ≤ 9223372036854775807) := by
  simp only [Value.okWide, Tryz.underlying23] at hval
  obtain ⟨cs, rfl, hsz, _⟩ := hval
  obtain ⟨l⟩ := cs
  match l, hsz.trans cellsTwo with
  | [c0, c1], _ =>
    obtain ⟨fuel, hf⟩ := h
    have hf2 : DataW.trod enc Tryz.prog W 0 (fun _ => true) true fuel 23 [c0, c1] = some (d, p) := hf
    obtain ⟨y0, y1, n, g0, g1⟩ := trod_pair Tryz.underlying23 cellsInt hf2
    obtain ⟨a0, e0, _, w0⟩ := DataW.trod_int Tryz.underlying3 g0
    obtain ⟨a1, e1, _, w1⟩ := DataW.trod_int Tryz.underlying3 g1
    injection e0 with e0 _; injection e1 with e1 _
    exact ⟨a0, a1, by rw [e0, e1], bounds_i64 w0, bounds_i64 w1⟩
end
end Go.Proofs.YtjmapbaofpilaaaGreat
/-
  PROVED: for every input the law VouchMade returns true and leaves its arguments as they were. Conditions: none but the row's own.
-/
namespace Go.Proofs.YtjmapbaofpilaaaGreat.vouchMade
open Go.ChangeShapes Go.WideShapes Go.ChangeAt Go.RowKit
theorem own : ownKnob Tryz.prog.godebug = none := by kernel_rfl
theorem laidOut : laidOutB Tryz.prog = true := by kernel_rfl
theorem cellsI : Tryz.prog.cellsOf 3 = 1 := by kernel_rfl
set_option maxRecDepth 100000 in
theorem lifted (H10 : VouchC) (os : Os) (started : os.Started) (H : Type) (enc : TypeId × Value → H) :
    ReturnsInHanded {} Tryz.checked os 3 .any (Rows.vouchMadeSpec.pre6 enc Tryz.prog Tryz.f3 Rows.vouchMadeRow.domain false) (Rows.vouchMadeSpec.post enc Tryz.prog Tryz.f3 false true false false) := by
  refine returnsInHanded_of_change (C := Tryz.checked) own started (by kernel_rfl) Tryz.func3
    (ChangeSpec.witness6 (enc := enc) (C := Tryz.checked) false ⟨#[], #[.slice none 0 0, .int .i64 0, .agg #[.int .i64 0, .int .i64 0]], []⟩ 8 (by kernel_rfl) (by kernel_rfl) (by kernel_rfl) (by kernel_rfl)) ?_
  intro W base args ds gs before hval hW _ _
  have hW' := hW
  obtain ⟨p, q, hA, hV, rfl, _, _⟩ := hW
  rw [Tryz.params3] at hA hval
  obtain ⟨v0, v1, v2, d0, d1, d2, p0, p1, p2, rfl, rfl, rfl, h0, h1, h2⟩ := trodAll_three hA
  obtain ⟨rfl, rfl⟩ := trodVars_none hV
  obtain ⟨A, n, c, l, rfl, hr, _⟩ := open_i64s Tryz.underlying22 Tryz.underlying3 cellsI (hval 0 22 v0 rfl rfl) h0
  obtain ⟨a1, rfl, rfl, rfl, w1⟩ := open_int Tryz.underlying3 (hval 1 3 v1 rfl rfl) h1
  obtain ⟨n0, n1, rfl, w0, w2⟩ := open_pair (hval 2 23 v2 rfl rfl) h2
  refine (vmade_any H10 A n c l a1 n0 n1 W hr).mono fun e W' ⟨he, hb⟩ => ?_
  subst he
  exact law_post laidOut (by kernel_rfl) Tryz.underlying4 (by kernel_rfl) rfl hW' rfl hb
theorem over (H10 : VouchC) : Rows.VouchMadeSaid :=
  OpenClaim.holds_of_wide 3 Tryz.f3 rfl rfl rfl rfl rfl rfl rfl ⟨rfl, rfl, rfl, rfl, rfl⟩ rfl rfl rfl rfl rfl (by kernel_rfl) Tryz.func3 (by kernel_rfl)
    (of_decide_eq_true (by kernel_rfl)) (by unfold Func.isWrapper; first | (rw [if_pos (by decide +kernel)]; kernel_rfl) | (rw [if_neg (by decide +kernel)]; exact ⟨rfl, rfl⟩))
    (fun os started H enc _ => lifted H10 os started H enc)
end Go.Proofs.YtjmapbaofpilaaaGreat.vouchMade
