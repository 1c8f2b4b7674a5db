import Derived.Test.YtnmpbjgccbnomaaGreatPackAT
import Derived.Test.YtnmpbjgccbnomaaGreatPackAQ
import Derived.Test.YtnmpbjgccbnomaaGreatPackAC
import Derived.Deep.CutBlock
import Derived.Deep.DeepCutAuto
import Derived.Test.YtnmpbjgccbnomaaGreatPackAN
import Derived.Shelf.Abstract
/- The walk of the dice's Spoil. -/
namespace Go.Proofs.YtnmpbjgccbnomaaGreat
open Go.RowKit
set_option maxRecDepth 100000 in
set_option maxHeartbeats 4000000 in
theorem spoil_g (L D : Nat) (t : List Int) (A : Option Addr) (n c : Nat) (l : List Pl) (w : World) (h : ∃ k, DiceAt w L D t k) (hl : LRow w A n c l) (hn : n ≤ 100) (hs : ∀ p ∈ l, Small p.s) (bt : Int) (hbt : 0 ≤ bt ∧ bt ≤ 100000) (htl : TimL bt l) :
    Calls Tryz.prog 46 #[.pointer (some ⟨D, 0, none⟩), .slice A n c] w fun e w' => ∃ v l', e = .returned v ∧ LGot w' w.heap.size v l' ∧ l'.length ≤ n + 2 ∧ Gave L D t w w' ∧ TimL (bt + 2) l' := by
  have hDw : D < w.heap.size := by obtain ⟨k, hk⟩ := h; exact hk.lt
  have HR0 : Hid (Rnd L D t w w) := Lib.hid ⟨But.refl _ _, h⟩
  have HL := Lib.hid hl; have HS := Lib.hid hs; have HTA := Lib.hid htl
  have hbt0 := hbt.1; have hbt1 := hbt.2
  clear h hl hs htl hbt
  go_enter Tryz.func46, Tryz.ntmps46
  go_wp2_with fail
  refine (copyList_hi A n c l w HL.out (by omega) HS.out).mono ?_
  rintro e w1 ⟨v1, l1, rfl, hm, ho, hhi, hb⟩
  have HG1 : Hid (LGot w1 w.heap.size v1 l1) := Lib.hid ⟨ho, hhi, fun p hp => by
    have h1 : p.s ∈ l.map (·.s) := by rw [← hm]; exact List.mem_map_of_mem hp
    obtain ⟨r, hr, he⟩ := List.mem_map.1 h1
    rw [← he]; exact HS.out r hr⟩
  have HT1 : Hid (TimL bt l1) := Lib.hid fun p hp => by
    have h1 : p.s ∈ l.map (·.s) := by rw [← hm]; exact List.mem_map_of_mem hp
    obtain ⟨r, hr, he⟩ := List.mem_map.1 h1
    rw [← he]; exact HTA.out r hr
  have hln : l1.length ≤ n := by have h1 := congrArg List.length hm; rw [List.length_map, List.length_map, HL.out.len] at h1; omega
  have HR1 := Lib.hid (HR0.out.later hb)
  obtain ⟨A1, c1, hv, -⟩ := HG1.out.own.row
  subst hv
  clear hm ho hhi hb HR0 HL HS HTA
  by_cases hz : l1.length = 0
  · have b0 : ((l1.length : Int) == 0) = true := by rw [hz]; rfl
    have b1 : (l1.length == 0) = true := by rw [hz]; rfl
    clear hz
    go_wp2_with fail
    go_ret
    exact ⟨_, l1, rfl, HG1.out, by omega, ⟨HR1.out.dice, HR1.out.but⟩, HT1.out.mono (by omega)⟩
  · have b0 : ((l1.length : Int) == 0) = false := by rw [beq_eq_false_iff_ne]; omega
    have b1 : (l1.length == 0) = false := by rw [beq_eq_false_iff_ne]; exact hz
    have hz0 : 1 ≤ l1.length := by omega
    clear hz
    go_wp2_with fail
    refine (next_g L D t 3 w1 HR1.out.dice (by omega) (by omega)).mono ?_
    rintro e w2 ⟨N0, rfl, hN0, hN1, hg⟩
    have HR2 := Lib.hid (HR1.out.gave hg)
    replace HG1 := Lib.hid (HG1.out.but hg.2 hDw)
    clear hg HR1 b0 b1
    obtain ⟨N, rfl⟩ : ∃ N : Nat, N0 = (N : Int) := ⟨N0.toNat, by omega⟩
    go_wp2_with fail
    go_loopw [5, 6] (fun v i6 wr => ∃ (m : Nat) (l' : List Pl), i6 = .int .i64 m ∧ 1 ≤ l'.length ∧ l'.length + m ≤ n + 2 ∧ Hid (TimL (bt + 2 - (m : Int)) l') ∧ Hid (LGot wr w.heap.size v l' ∧ Rnd L D t w wr)) (fun _ i6 _ => (intOf i6).toNat)
    case atStart => exact ⟨N, l1, rfl, hz0, by omega, Lib.hid (HT1.out.mono (by omega)), Lib.hid ⟨HG1.out, HR2.out⟩⟩
    case round =>
      obtain ⟨m, l', rfl, hl1, hlm, HTL, HQ⟩ := hrel
      clear HR2 HG1 HT1 hln hz0 hN0 hN1
      obtain ⟨A1, c1, hv, -⟩ := HQ.out.1.own.row
      subst hv
      by_cases hm0 : 0 < m
      · have hm2 : (0 : Int) < (m : Int) := by omega
        have hwr : w.heap.size ≤ wr.heap.size := HQ.out.2.but.size
        have hDr : D < wr.heap.size := by omega
        have HW : Hid (Rnd L D t wr wr) := Lib.hid ⟨But.refl _ _, HQ.out.2.dice⟩
        have hle2 : (l'.length : Int) ≤ 1000000 := by omega
        have hle1 : (1 : Int) ≤ (l'.length : Int) := by omega
        go_wp2_with fail
        refine (next_g L D t (l'.length : Int) wr HW.out.dice hle1 hle2).mono ?_
        rintro e x1 ⟨I0, rfl, hI0, hI1, hg⟩
        obtain ⟨I, rfl⟩ : ∃ I : Nat, I0 = (I : Int) := ⟨I0.toNat, by omega⟩
        have hI : I < l'.length := by omega
        have HR1 := Lib.hid (HW.out.gave hg)
        have HLW := Lib.hid (HQ.out.1.but hg.2 hDw)
        clear hg HW
        obtain ⟨A7, c7, hv7, hr7⟩ := HLW.out.own.row
        injection hv7 with hv7 _ hc7
        subst hv7 hc7
        have HLR := Lib.hid hr7; clear hr7
        obtain ⟨b, off, hA, hc⟩ := HLR.out.cells I hI
        subst hA
        have HC := Lib.hid hc; clear hc
        have HOK := Lib.hid (HLR.out.at I hI); have HSM := Lib.hid (HLW.out.small _ (HLR.out.get I hI))
        have HTA := Lib.hid (HTL.out _ (HLR.out.get I hI))
        generalize l'.getD I noPl = a at *
        clear HLR
        go_wp2_with (refine wpList_load_cells rfl 48 (.tmp 26) rfl b (off + I * 13) rfl a.arr _ Tryz.underlying48 rfl a.info HC.out ?_)
        refine (copyP_any a x1 HOK.out HSM.out).mono ?_
        rintro e x2 ⟨q, rfl, hqs, hqo, hna, hnb, hb⟩
        go_upto_region 8 with (refine wpList_store_new rfl 48 (.tmp 7) (.tmp 28) rfl 48 _ q.arr rfl rfl q.info rfl q.one ?_)
        have HNW := Lib.hid (one_new x2 (.cells q.arr 48))
        have hsz : wr.heap.size ≤ x2.heap.size := Nat.le_trans HR1.out.but.size hb.size
        have HM : Hid (SpM L D t wr x2.heap.size q (x2.alloc (.cells q.arr 48))) := Lib.hid ⟨(HR1.out.later hb).later HNW.out, heap_alloc_new _ _, hqo.later HNW.out, hqo.offB (Nat.le_refl _), ⟨fun ad e => Nat.le_trans HR1.out.but.size (hna ad e), fun ad e => Nat.le_trans HR1.out.but.size (hnb ad e)⟩, by rw [hqs]; exact HSM.out, hsz, hDr⟩
        have HLF : Hid (LFree x2.heap.size (.slice (some ⟨b, off, none⟩) l'.length c1) l') := Lib.hid (HQ.out.1.free hsz)
        have HLG : Hid (LGot (x2.alloc (.cells q.arr 48)) w.heap.size (.slice (some ⟨b, off, none⟩) l'.length c1) l') := Lib.hid ((HLW.out.but (But.of hb) hDw).but (But.of HNW.out) hDw)
        have HQT : Hid (0 ≤ q.s.time ∧ q.s.time ≤ bt + 2 - (m : Int)) := Lib.hid (by rw [hqs]; exact HTA.out)
        have HT : Hid (0 ≤ q.s.time ∧ q.s.time ≤ bt + 3 - (m : Int)) := Lib.hid (by have h := HQT.out; omega)
        clear hqs hqo hna hnb hb HNW HC HOK HSM HLW HR1 HTA
        generalize x2.alloc (.cells q.arr 48) = x3 at *
        generalize x2.heap.size = g at *
        generalize hA1 : (some ⟨b, off, none⟩ : Option Addr) = A1 at *
        clear hA1
        go_wp2_with fail
        refine (next_g L D t 5 x3 HM.out.rnd.dice (by omega) (by omega)).mono ?_
        rintro e x4 ⟨K, rfl, hK0, hK1, hg⟩
        replace HM := Lib.hid (HM.out.gave hg); replace HLG := Lib.hid (HLG.out.but hg.2 hDw)
        clear hg
        go_upto_block 2 with fail
        go_cut [5] (fun v wx => ∃ (A2 : Option Addr) (c2 : Nat) (l2 : List Pl) (p2 : Pl), v = .slice A2 l2.length c2 ∧ 1 ≤ l2.length ∧ l2.length ≤ l'.length ∧ Hid (SpM L D t wr g p2 wx ∧ LGot wx w.heap.size (.slice A2 l2.length c2) l2 ∧ LFree g (.slice A2 l2.length c2) l2) ∧ Hid (0 ≤ p2.s.time ∧ p2.s.time ≤ bt + 3 - (m : Int)) ∧ Hid (TimL (bt + 2 - (m : Int)) l2))
        case first =>
          have hK : K = 0 ∨ K = 1 ∨ K = 2 ∨ K = 3 ∨ K = 4 := by omega
          clear hK0 hK1
          rcases hK with rfl | rfl | rfl | rfl | rfl
          · have hf3 : x4.frozen? ⟨g, 3, none⟩ = false := frozen_of_row _ _ _ _ _ HM.out.cur
            have hc3 : x4.cell? ⟨g, 3, none⟩ = some (.int .i64 q.s.time) := (cell_of_row _ _ 3 _ _ _ HM.out.cur).trans rfl
            go_upto_region 14 with fail
            clear hf3 hc3
            have HM2 := Lib.hid (HM.out.set { q.s with time := (wrap64 (q.s.time + 1)) } 3 (.int .i64 (wrap64 (q.s.time + 1))) rfl rfl rfl (by have hs := HM.out.small; exact ⟨hs.prev, hs.list, hs.pins, hs.all, hs.body, hs.dig⟩))
            have HT2 : Hid (0 ≤ (q.to { q.s with time := (wrap64 (q.s.time + 1)) }).s.time ∧ (q.to { q.s with time := (wrap64 (q.s.time + 1)) }).s.time ≤ bt + 3 - (m : Int)) := Lib.hid (by have h := HQT.out; show 0 ≤ wrap64 (q.s.time + 1) ∧ wrap64 (q.s.time + 1) ≤ bt + 3 - (m : Int); rw [wrap64_id7 _ (by omega)]; omega)
            replace HLG := Lib.hid (HLG.out.turn HLF.out (But.set x4 3 (.int .i64 (wrap64 (q.s.time + 1)))))
            clear HM HT
            have HM := HM2
            have HT := HT2
            clear HM2 HT2
            generalize x4.setCell ⟨g, 3, none⟩ (.int .i64 (wrap64 (q.s.time + 1))) = x5 at *
            generalize q.to { q.s with time := wrap64 (q.s.time + 1) } = q5 at *
            refine wp_region_flow (by kernel_rfl) (FC g) ?_
            replace HM := Lib.hid (HM.out.later (Later.drew x5)); replace HLG := Lib.hid (HLG.out.but (But.of (D := D) (Later.drew x5)) hDw)
            generalize x5.drew = x0 at *
            have hf3 : ∀ y, (fut (FC g) x0 y).cell? ⟨g, 3, none⟩ = some (.int .i64 q5.s.time) := fun y => (fut_ok FC.refl x0 y).1.trans HM.out.c3
            have hf4 : ∀ y, (fut (FC g) x0 y).cell? ⟨g, 4, none⟩ = some (.int .i64 q5.s.kind) := fun y => (fut_ok FC.refl x0 y).2.trans HM.out.c4
            refine flow_reads (F := FC g) FC.refl (by kernel_rfl) [0, 2, 3, 4, 5, 6] (fuel := 6) (by kernel_rfl) ?_
            simp only [List.map_cons, List.map_nil, pick, List.getD_cons_zero, List.getD_cons_succ]
            repeat (go_big_quiet_step (fail))
            refine wpQuiet_nil ?_
            clear hf3 hf4
            refine flow_two (F := FC g) (fun _ _ _ => FC.trans) FC.refl 1 7 (by kernel_rfl) (by decide) (by decide) ?_ ?_ <;> simp only [pick, List.getD_cons_zero, List.getD_cons_succ]
            · have hc7 : x0.cell? ⟨g, 7, none⟩ = some (.int .i64 q5.s.c) := (cell_of_row _ _ 7 _ _ _ HM.out.cur).trans rfl
              go_wp2_with fail
              clear hc7
              refine pieceEnd_normal ⟨FC.refl _, ?_⟩
              refine flow_one (F := FC g) (fun _ _ _ => FC.trans) FC.refl 7 (by kernel_rfl) (by decide) ?_
              simp only [pick, List.getD_cons_zero, List.getD_cons_succ]
              go_wp2_with fail
              refine (mod_any _ 2 x0 (by omega) (by omega)).mono ?_
              rintro e x6 ⟨rfl, rfl⟩
              generalize modF _ 2 = md
              go_wp2_with fail
              refine pieceEnd_normal ⟨FC.refl _, ?_⟩
              refine flow_reads (F := FC g) FC.refl (by kernel_rfl) [8, 9, 10] (fuel := 1) (by kernel_rfl) ?_
              simp only [List.map_cons, List.map_nil, pick, List.getD_cons_zero, List.getD_cons_succ]
              repeat (go_big_quiet_step (fail))
              refine wpQuiet_nil ?_
              refine flow_one (F := FC g) (fun _ _ _ => FC.trans) FC.refl 11 (by kernel_rfl) (by decide) ?_
              simp only [pick, List.getD_cons_zero, List.getD_cons_succ]
              have hf7 : x0.frozen? ⟨g, 7, none⟩ = false := frozen_of_row _ _ _ _ _ HM.out.cur
              have hc7 : x0.cell? ⟨g, 7, none⟩ = some (.int .i64 q5.s.c) := (cell_of_row _ _ 7 _ _ _ HM.out.cur).trans rfl
              go_wp2_with fail
              clear hf7 hc7
              have HM2 := Lib.hid (HM.out.set { q5.s with c := (max q5.s.c (wrap64 (q5.s.time * md))) } 7 (.int .i64 (max q5.s.c (wrap64 (q5.s.time * md)))) rfl rfl rfl (by have hs := HM.out.small; exact ⟨hs.prev, hs.list, hs.pins, hs.all, hs.body, hs.dig⟩))
              have HT2 : Hid (0 ≤ (q5.to { q5.s with c := (max q5.s.c (wrap64 (q5.s.time * md))) }).s.time ∧ (q5.to { q5.s with c := (max q5.s.c (wrap64 (q5.s.time * md))) }).s.time ≤ bt + 3 - (m : Int)) := Lib.hid (HT.out)
              replace HLG := Lib.hid (HLG.out.turn HLF.out (But.set x0 7 (.int .i64 (max q5.s.c (wrap64 (q5.s.time * md))))))
              have HFC := Lib.hid (HM.out.fc HM2.out rfl rfl)
              clear HM HT
              have HM := HM2
              have HT := HT2
              clear HM2 HT2
              refine pieceEnd_normal ⟨HFC.out, ?_⟩
              clear HFC
              refine flow_done (by kernel_rfl) ?_
              go_wp2_with fail
              go_meet
              exact ⟨A1, c1, l', _, rfl, hl1, Nat.le_refl _, Lib.hid ⟨HM.out, HLG.out, HLF.out⟩, HT, HTL⟩
            · go_wp2_with fail
              refine (mod_any _ 2 x0 (by omega) (by omega)).mono ?_
              rintro e x6 ⟨rfl, rfl⟩
              generalize modF _ 2 = md
              go_wp2_with fail
              refine pieceEnd_normal ⟨FC.refl _, ?_⟩
              refine flow_reads (F := FC g) FC.refl (by kernel_rfl) [8] (fuel := 4) (by kernel_rfl) ?_
              simp only [List.map_cons, List.map_nil, pick, List.getD_cons_zero, List.getD_cons_succ]
              repeat (go_big_quiet_step (fail))
              refine wpQuiet_nil ?_
              refine flow_one (F := FC g) (fun _ _ _ => FC.trans) FC.refl 1 (by kernel_rfl) (by decide) ?_
              simp only [pick, List.getD_cons_zero, List.getD_cons_succ]
              have hc7 : x0.cell? ⟨g, 7, none⟩ = some (.int .i64 q5.s.c) := (cell_of_row _ _ 7 _ _ _ HM.out.cur).trans rfl
              go_wp2_with fail
              clear hc7
              refine pieceEnd_normal ⟨FC.refl _, ?_⟩
              refine flow_reads (F := FC g) FC.refl (by kernel_rfl) [9, 10] (fuel := 1) (by kernel_rfl) ?_
              simp only [List.map_cons, List.map_nil, pick, List.getD_cons_zero, List.getD_cons_succ]
              repeat (go_big_quiet_step (fail))
              refine wpQuiet_nil ?_
              refine flow_one (F := FC g) (fun _ _ _ => FC.trans) FC.refl 11 (by kernel_rfl) (by decide) ?_
              simp only [pick, List.getD_cons_zero, List.getD_cons_succ]
              have hf7 : x0.frozen? ⟨g, 7, none⟩ = false := frozen_of_row _ _ _ _ _ HM.out.cur
              have hc7 : x0.cell? ⟨g, 7, none⟩ = some (.int .i64 q5.s.c) := (cell_of_row _ _ 7 _ _ _ HM.out.cur).trans rfl
              go_wp2_with fail
              clear hf7 hc7
              have HM2 := Lib.hid (HM.out.set { q5.s with c := (max q5.s.c (wrap64 (q5.s.time * md))) } 7 (.int .i64 (max q5.s.c (wrap64 (q5.s.time * md)))) rfl rfl rfl (by have hs := HM.out.small; exact ⟨hs.prev, hs.list, hs.pins, hs.all, hs.body, hs.dig⟩))
              have HT2 : Hid (0 ≤ (q5.to { q5.s with c := (max q5.s.c (wrap64 (q5.s.time * md))) }).s.time ∧ (q5.to { q5.s with c := (max q5.s.c (wrap64 (q5.s.time * md))) }).s.time ≤ bt + 3 - (m : Int)) := Lib.hid (HT.out)
              replace HLG := Lib.hid (HLG.out.turn HLF.out (But.set x0 7 (.int .i64 (max q5.s.c (wrap64 (q5.s.time * md))))))
              have HFC := Lib.hid (HM.out.fc HM2.out rfl rfl)
              clear HM HT
              have HM := HM2
              have HT := HT2
              clear HM2 HT2
              refine pieceEnd_normal ⟨HFC.out, ?_⟩
              clear HFC
              refine flow_done (by kernel_rfl) ?_
              go_wp2_with fail
              go_meet
              exact ⟨A1, c1, l', _, rfl, hl1, Nat.le_refl _, Lib.hid ⟨HM.out, HLG.out, HLF.out⟩, HT, HTL⟩
          · go_upto_region 16 with fail
            refine wp_region_flow (by kernel_rfl) (FC g) ?_
            replace HM := Lib.hid (HM.out.later (Later.drew x4)); replace HLG := Lib.hid (HLG.out.but (But.of (D := D) (Later.drew x4)) hDw)
            generalize x4.drew = x0 at *
            refine flow_reads (F := FC g) FC.refl (by kernel_rfl) [0, 3] (fuel := 7) (by kernel_rfl) ?_
            simp only [List.map_cons, List.map_nil, pick, List.getD_cons_zero, List.getD_cons_succ]
            repeat (go_big_quiet_step (fail))
            refine wpQuiet_nil ?_
            refine flow_two (F := FC g) (fun _ _ _ => FC.trans) FC.refl 1 4 (by kernel_rfl) (by decide) (by decide) ?_ ?_ <;> simp only [pick, List.getD_cons_zero, List.getD_cons_succ]
            · have hc1 : x0.cell? ⟨g, 1, none⟩ = some (.int .i64 q.s.number) := (cell_of_row _ _ 1 _ _ _ HM.out.cur).trans rfl
              go_wp2_with fail
              clear hc1
              refine pieceEnd_normal ⟨FC.refl _, ?_⟩
              refine flow_reads (F := FC g) FC.refl (by kernel_rfl) [2] (fuel := 5) (by kernel_rfl) ?_
              simp only [List.map_cons, List.map_nil, pick, List.getD_cons_zero, List.getD_cons_succ]
              repeat (go_big_quiet_step (fail))
              refine wpQuiet_nil ?_
              refine flow_one (F := FC g) (fun _ _ _ => FC.trans) FC.refl 4 (by kernel_rfl) (by decide) ?_
              simp only [pick, List.getD_cons_zero, List.getD_cons_succ]
              go_wp2_with fail
              refine (next_g L D t 3 x0 HM.out.rnd.dice (by omega) (by omega)).mono ?_
              rintro e x6 ⟨dv, rfl, hd0, hd1, hg⟩
              have HM2 := Lib.hid (HM.out.gave hg)
              replace HLG := Lib.hid (HLG.out.but hg.2 hDw)
              have HFC := Lib.hid (HM.out.fc HM2.out rfl rfl)
              clear HM hg hd0 hd1
              have HM := HM2
              clear HM2
              go_wp2_with fail
              refine pieceEnd_normal ⟨HFC.out, ?_⟩
              clear HFC
              refine flow_reads (F := FC g) FC.refl (by kernel_rfl) [5, 6, 7] (fuel := 1) (by kernel_rfl) ?_
              simp only [List.map_cons, List.map_nil, pick, List.getD_cons_zero, List.getD_cons_succ]
              repeat (go_big_quiet_step (fail))
              refine wpQuiet_nil ?_
              refine flow_one (F := FC g) (fun _ _ _ => FC.trans) FC.refl 8 (by kernel_rfl) (by decide) ?_
              simp only [pick, List.getD_cons_zero, List.getD_cons_succ]
              have hf1 : x6.frozen? ⟨g, 1, none⟩ = false := frozen_of_row _ _ _ _ _ HM.out.cur
              have hc1 : x6.cell? ⟨g, 1, none⟩ = some (.int .i64 q.s.number) := (cell_of_row _ _ 1 _ _ _ HM.out.cur).trans rfl
              go_wp2_with fail
              clear hf1 hc1
              have HM2 := Lib.hid (HM.out.set { q.s with number := (min (wrap64 (wrap64 (q.s.number + 1) + dv)) 199) } 1 (.int .i64 (min (wrap64 (wrap64 (q.s.number + 1) + dv)) 199)) rfl rfl rfl (by have hs := HM.out.small; exact ⟨hs.prev, hs.list, hs.pins, hs.all, hs.body, hs.dig⟩))
              have HT2 : Hid (0 ≤ (q.to { q.s with number := (min (wrap64 (wrap64 (q.s.number + 1) + dv)) 199) }).s.time ∧ (q.to { q.s with number := (min (wrap64 (wrap64 (q.s.number + 1) + dv)) 199) }).s.time ≤ bt + 3 - (m : Int)) := Lib.hid (HT.out)
              replace HLG := Lib.hid (HLG.out.turn HLF.out (But.set x6 1 (.int .i64 (min (wrap64 (wrap64 (q.s.number + 1) + dv)) 199))))
              have HFC := Lib.hid (HM.out.fc HM2.out rfl rfl)
              clear HM HT
              have HM := HM2
              have HT := HT2
              clear HM2 HT2
              refine pieceEnd_normal ⟨HFC.out, ?_⟩
              clear HFC
              refine flow_done (by kernel_rfl) ?_
              generalize x6.setCell ⟨g, 1, none⟩ (.int .i64 (min (wrap64 (wrap64 (q.s.number + 1) + dv)) 199)) = x7 at *
              generalize q.to { q.s with number := (min (wrap64 (wrap64 (q.s.number + 1) + dv)) 199) } = q7 at *
              have hc2 : x7.cell? ⟨g, 2, none⟩ = some (.string q7.s.prev) := (cell_of_row _ _ 2 _ _ _ HM.out.cur).trans rfl
              by_cases hp : q7.s.prev.size = 32
              · have b0 : ((q7.s.prev.size : Int) != 32) = false := by rw [hp]; rfl
                have b1 : (q7.s.prev.size != 32) = false := by rw [hp]; rfl
                clear hp
                go_wp2_with fail
                go_meet
                exact ⟨A1, c1, l', _, rfl, hl1, Nat.le_refl _, Lib.hid ⟨HM.out, HLG.out, HLF.out⟩, HT, HTL⟩
              · have b0 : ((q7.s.prev.size : Int) != 32) = true := by rw [bne_iff_ne]; omega
                have b1 : (q7.s.prev.size != 32) = true := by rw [bne_iff_ne]; exact hp
                clear hp
                go_wp2_with fail
                clear b0 b1 hc2
                refine (ddigest_g L D t x7 HM.out.rnd.dice).mono ?_
                rintro e x8 ⟨dg, rfl, hdg, hg⟩
                have HDG := Lib.hid hdg
                replace HM := Lib.hid (HM.out.gave hg)
                replace HLG := Lib.hid (HLG.out.but hg.2 hDw)
                clear hdg hg
                have hf2 : x8.frozen? ⟨g, 2, none⟩ = false := frozen_of_row _ _ _ _ _ HM.out.cur
                have hc2 : x8.cell? ⟨g, 2, none⟩ = some (.string q7.s.prev) := (cell_of_row _ _ 2 _ _ _ HM.out.cur).trans rfl
                skip
                have HM2 := Lib.hid (HM.out.set { q7.s with prev := dg } 2 (.string dg) rfl rfl rfl (by have hs := HM.out.small; exact ⟨by show ByteArray.size _ ≤ _; rw [HDG.out]; decide, hs.list, hs.pins, hs.all, hs.body, hs.dig⟩))
                have HT2 : Hid (0 ≤ (q7.to { q7.s with prev := dg }).s.time ∧ (q7.to { q7.s with prev := dg }).s.time ≤ bt + 3 - (m : Int)) := Lib.hid (HT.out)
                replace HLG := Lib.hid (HLG.out.turn HLF.out (But.set x8 2 (.string dg)))
                clear HM HT
                have HM := HM2
                have HT := HT2
                clear HM2 HT2
                replace HM := HM
                go_wp2_with fail
                go_meet
                exact ⟨A1, c1, l', _, rfl, hl1, Nat.le_refl _, Lib.hid ⟨HM.out, HLG.out, HLF.out⟩, HT, HTL⟩
            · go_wp2_with fail
              refine (next_g L D t 3 x0 HM.out.rnd.dice (by omega) (by omega)).mono ?_
              rintro e x6 ⟨dv, rfl, hd0, hd1, hg⟩
              have HM2 := Lib.hid (HM.out.gave hg)
              replace HLG := Lib.hid (HLG.out.but hg.2 hDw)
              have HFC := Lib.hid (HM.out.fc HM2.out rfl rfl)
              clear HM hg hd0 hd1
              have HM := HM2
              clear HM2
              go_wp2_with fail
              refine pieceEnd_normal ⟨HFC.out, ?_⟩
              clear HFC
              refine flow_one (F := FC g) (fun _ _ _ => FC.trans) FC.refl 1 (by kernel_rfl) (by decide) ?_
              simp only [pick, List.getD_cons_zero, List.getD_cons_succ]
              have hc1 : x6.cell? ⟨g, 1, none⟩ = some (.int .i64 q.s.number) := (cell_of_row _ _ 1 _ _ _ HM.out.cur).trans rfl
              go_wp2_with fail
              clear hc1
              refine pieceEnd_normal ⟨FC.refl _, ?_⟩
              refine flow_reads (F := FC g) FC.refl (by kernel_rfl) [2, 5, 6, 7] (fuel := 1) (by kernel_rfl) ?_
              simp only [List.map_cons, List.map_nil, pick, List.getD_cons_zero, List.getD_cons_succ]
              repeat (go_big_quiet_step (fail))
              refine wpQuiet_nil ?_
              refine flow_one (F := FC g) (fun _ _ _ => FC.trans) FC.refl 8 (by kernel_rfl) (by decide) ?_
              simp only [pick, List.getD_cons_zero, List.getD_cons_succ]
              have hf1 : x6.frozen? ⟨g, 1, none⟩ = false := frozen_of_row _ _ _ _ _ HM.out.cur
              have hc1 : x6.cell? ⟨g, 1, none⟩ = some (.int .i64 q.s.number) := (cell_of_row _ _ 1 _ _ _ HM.out.cur).trans rfl
              go_wp2_with fail
              clear hf1 hc1
              have HM2 := Lib.hid (HM.out.set { q.s with number := (min (wrap64 (wrap64 (q.s.number + 1) + dv)) 199) } 1 (.int .i64 (min (wrap64 (wrap64 (q.s.number + 1) + dv)) 199)) rfl rfl rfl (by have hs := HM.out.small; exact ⟨hs.prev, hs.list, hs.pins, hs.all, hs.body, hs.dig⟩))
              have HT2 : Hid (0 ≤ (q.to { q.s with number := (min (wrap64 (wrap64 (q.s.number + 1) + dv)) 199) }).s.time ∧ (q.to { q.s with number := (min (wrap64 (wrap64 (q.s.number + 1) + dv)) 199) }).s.time ≤ bt + 3 - (m : Int)) := Lib.hid (HT.out)
              replace HLG := Lib.hid (HLG.out.turn HLF.out (But.set x6 1 (.int .i64 (min (wrap64 (wrap64 (q.s.number + 1) + dv)) 199))))
              have HFC := Lib.hid (HM.out.fc HM2.out rfl rfl)
              clear HM HT
              have HM := HM2
              have HT := HT2
              clear HM2 HT2
              refine pieceEnd_normal ⟨HFC.out, ?_⟩
              clear HFC
              refine flow_done (by kernel_rfl) ?_
              generalize x6.setCell ⟨g, 1, none⟩ (.int .i64 (min (wrap64 (wrap64 (q.s.number + 1) + dv)) 199)) = x7 at *
              generalize q.to { q.s with number := (min (wrap64 (wrap64 (q.s.number + 1) + dv)) 199) } = q7 at *
              have hc2 : x7.cell? ⟨g, 2, none⟩ = some (.string q7.s.prev) := (cell_of_row _ _ 2 _ _ _ HM.out.cur).trans rfl
              by_cases hp : q7.s.prev.size = 32
              · have b0 : ((q7.s.prev.size : Int) != 32) = false := by rw [hp]; rfl
                have b1 : (q7.s.prev.size != 32) = false := by rw [hp]; rfl
                clear hp
                go_wp2_with fail
                go_meet
                exact ⟨A1, c1, l', _, rfl, hl1, Nat.le_refl _, Lib.hid ⟨HM.out, HLG.out, HLF.out⟩, HT, HTL⟩
              · have b0 : ((q7.s.prev.size : Int) != 32) = true := by rw [bne_iff_ne]; omega
                have b1 : (q7.s.prev.size != 32) = true := by rw [bne_iff_ne]; exact hp
                clear hp
                go_wp2_with fail
                clear b0 b1 hc2
                refine (ddigest_g L D t x7 HM.out.rnd.dice).mono ?_
                rintro e x8 ⟨dg, rfl, hdg, hg⟩
                have HDG := Lib.hid hdg
                replace HM := Lib.hid (HM.out.gave hg)
                replace HLG := Lib.hid (HLG.out.but hg.2 hDw)
                clear hdg hg
                have hf2 : x8.frozen? ⟨g, 2, none⟩ = false := frozen_of_row _ _ _ _ _ HM.out.cur
                have hc2 : x8.cell? ⟨g, 2, none⟩ = some (.string q7.s.prev) := (cell_of_row _ _ 2 _ _ _ HM.out.cur).trans rfl
                skip
                have HM2 := Lib.hid (HM.out.set { q7.s with prev := dg } 2 (.string dg) rfl rfl rfl (by have hs := HM.out.small; exact ⟨by show ByteArray.size _ ≤ _; rw [HDG.out]; decide, hs.list, hs.pins, hs.all, hs.body, hs.dig⟩))
                have HT2 : Hid (0 ≤ (q7.to { q7.s with prev := dg }).s.time ∧ (q7.to { q7.s with prev := dg }).s.time ≤ bt + 3 - (m : Int)) := Lib.hid (HT.out)
                replace HLG := Lib.hid (HLG.out.turn HLF.out (But.set x8 2 (.string dg)))
                clear HM HT
                have HM := HM2
                have HT := HT2
                clear HM2 HT2
                replace HM := HM
                go_wp2_with fail
                go_meet
                exact ⟨A1, c1, l', _, rfl, hl1, Nat.le_refl _, Lib.hid ⟨HM.out, HLG.out, HLF.out⟩, HT, HTL⟩
          · have hf3 : x4.frozen? ⟨g, 3, none⟩ = false := frozen_of_row _ _ _ _ _ HM.out.cur
            have hc3 : x4.cell? ⟨g, 3, none⟩ = some (.int .i64 q.s.time) := (cell_of_row _ _ 3 _ _ _ HM.out.cur).trans rfl
            have HM2 := Lib.hid (HM.out.set { q.s with time := (max 0 (wrap64 (q.s.time - 30))) } 3 (.int .i64 (max 0 (wrap64 (q.s.time - 30)))) rfl rfl rfl (by have hs := HM.out.small; exact ⟨hs.prev, hs.list, hs.pins, hs.all, hs.body, hs.dig⟩))
            have HT2 : Hid (0 ≤ (q.to { q.s with time := (max 0 (wrap64 (q.s.time - 30))) }).s.time ∧ (q.to { q.s with time := (max 0 (wrap64 (q.s.time - 30))) }).s.time ≤ bt + 3 - (m : Int)) := Lib.hid (by have h := HQT.out; show 0 ≤ max 0 (wrap64 (q.s.time - 30)) ∧ max 0 (wrap64 (q.s.time - 30)) ≤ bt + 3 - (m : Int); rw [wrap64_id7 _ (by omega)]; omega)
            replace HLG := Lib.hid (HLG.out.turn HLF.out (But.set x4 3 (.int .i64 (max 0 (wrap64 (q.s.time - 30))))))
            clear HM HT
            have HM := HM2
            have HT := HT2
            clear HM2 HT2
            go_wp2_with fail
            go_meet
            exact ⟨A1, c1, l', _, rfl, hl1, Nat.le_refl _, Lib.hid ⟨HM.out, HLG.out, HLF.out⟩, HT, HTL⟩
          · have hc1 : x4.cell? ⟨g, 1, none⟩ = some (.int .i64 q.s.number) := (cell_of_row _ _ 1 _ _ _ HM.out.cur).trans rfl
            by_cases hnum : q.s.number > 0
            · have b0 : decide (q.s.number > 0) = true := decide_eq_true hnum
              have b1 : decide (0 < q.s.number) = true := decide_eq_true hnum
              go_wp2_with fail
              clear b0 b1 hnum hc1
              refine (ddigest_g L D t x4 HM.out.rnd.dice).mono ?_
              rintro e x8 ⟨dg, rfl, hdg, hg⟩
              have HDG := Lib.hid hdg
              replace HM := Lib.hid (HM.out.gave hg)
              replace HLG := Lib.hid (HLG.out.but hg.2 hDw)
              clear hdg hg
              have hf2 : x8.frozen? ⟨g, 2, none⟩ = false := frozen_of_row _ _ _ _ _ HM.out.cur
              have hc2 : x8.cell? ⟨g, 2, none⟩ = some (.string q.s.prev) := (cell_of_row _ _ 2 _ _ _ HM.out.cur).trans rfl
              skip
              have HM2 := Lib.hid (HM.out.set { q.s with prev := dg } 2 (.string dg) rfl rfl rfl (by have hs := HM.out.small; exact ⟨by show ByteArray.size _ ≤ _; rw [HDG.out]; decide, hs.list, hs.pins, hs.all, hs.body, hs.dig⟩))
              have HT2 : Hid (0 ≤ (q.to { q.s with prev := dg }).s.time ∧ (q.to { q.s with prev := dg }).s.time ≤ bt + 3 - (m : Int)) := Lib.hid (HT.out)
              replace HLG := Lib.hid (HLG.out.turn HLF.out (But.set x8 2 (.string dg)))
              clear HM HT
              have HM := HM2
              have HT := HT2
              clear HM2 HT2
              replace HM := HM
              go_wp2_with fail
              go_meet
              exact ⟨A1, c1, l', _, rfl, hl1, Nat.le_refl _, Lib.hid ⟨HM.out, HLG.out, HLF.out⟩, HT, HTL⟩
            · have b0 : decide (q.s.number > 0) = false := decide_eq_false hnum
              have b1 : decide (0 < q.s.number) = false := decide_eq_false hnum
              go_wp2_with fail
              go_meet
              exact ⟨A1, c1, l', _, rfl, hl1, Nat.le_refl _, Lib.hid ⟨HM.out, HLG.out, HLF.out⟩, HT, HTL⟩
          · by_cases hl2 : 1 < l'.length
            · have b0 : decide ((l'.length : Int) > 1) = true := decide_eq_true (by omega)
              have b1 : (1 : Int) < (l'.length : Int) := by omega
              go_wp2_with fail
              refine (next_g L D t (l'.length : Int) x4 HM.out.rnd.dice hle1 hle2).mono ?_
              rintro e x6 ⟨E0, rfl, hE0, hE1, hg⟩
              replace HM := Lib.hid (HM.out.gave hg)
              replace HLG := Lib.hid (HLG.out.but hg.2 hDw)
              clear hg b0
              obtain ⟨E, rfl⟩ : ∃ E : Nat, E0 = (E : Int) := ⟨E0.toNat, by omega⟩
              have hE : E ≤ l'.length := by omega
              have hE2 : E + 1 ≤ l'.length := by omega
              obtain ⟨A7, c7, hv7, hr7⟩ := HLG.out.own.row
              injection hv7 with hv7 _ hc7
              subst hv7 hc7
              have HLR := Lib.hid hr7; clear hr7
              go_upto_region 11 with fail
              have hs1 := fun w' => run_slice_to (P := Tryz.prog) (t := 27) Tryz.underlying27 stm_size6 (w0 := x6) HLR.out.row (i := (E : Int)) rfl hE .i64 w'
              have hs2 := fun w' => run_slice_from (P := Tryz.prog) (t := 27) Tryz.underlying27 stm_size6 (A := A1) (n := l'.length) (c := c1) (k := E + 1) (i := (E : Int) + 1) rfl hE2 .i64 w'
              refine wp_region_grow (by kernel_rfl) (Below x6.drew.heap.size) (Below.refl x6.drew.heap.size) (fun _ _ _ => Below.trans) [9] [([0, 1, 2, 4, 5, 6, 7], 3), ([], 8)] (by kernel_rfl) (by kernel_rfl) (by kernel_rfl) ?_
              simp only [List.map_cons, List.map_nil, pick, List.getD_cons_zero, List.getD_cons_succ]
              replace HM := Lib.hid (HM.out.later (Later.drew x6)); replace HLG := Lib.hid (HLG.out.but (But.of (D := D) (Later.drew x6)) hDw); replace HLR := Lib.hid (HLR.out.later (Later.drew x6))
              generalize x6.drew = u0 at *
              have HLT := Lib.hid (HLR.out.take E hE); have HLD := Lib.hid (HLR.out.drop (E + 1) hE2)
              have hk1 : (l'.take E).length = E := by rw [List.length_take]; omega
              have hk2 : (l'.drop (E + 1)).length = l'.length - (E + 1) := List.length_drop
              have HSUB : Hid (∀ p, p ∈ l'.take E ++ l'.drop (E + 1) → p ∈ l') := Lib.hid fun p hp => by
                rcases List.mem_append.1 hp with hp | hp
                · exact List.mem_of_mem_take hp
                · exact List.mem_of_mem_drop hp
              generalize dropA A1 c1 (E + 1) 13 = AD at hs2 HLD
              generalize l'.take E = l1 at *
              generalize l'.drop (E + 1) = l2 at *
              refine wpGrow_cons ?_
              repeat (go_big_quiet_step (fail))
              refine wpQuiet_nil ?_
              clear hs1 hs2
              go_wp2_with (at_builtin; go_must (refine wpList_app u0 rfl (.const (.slice none 0 0)) (.tmp 40) 27 27 48 rfl u0.heap.size Tryz.underlying27 stm_info rfl _ 0 [] (World.ownsRow_nil _ _ _ _) rfl _ E (plsC l1) (Row.src HLT.out.row Tryz.underlying27 (plsC_one _)) rfl (by unfold maxLen; omega) (by omega) (Nat.le_refl _) ?_); intro v1 z1 ho hb; rw [Nat.zero_add, List.nil_append, ← hk1] at ho; have HO2 : Hid (LOwn z1 u0.heap.size v1 l1) := Lib.hid ⟨ho, fun r hr => ⟨(HLT.out.ok r hr).later hb, (HLT.out.ok r hr).clear (own_ge ho)⟩⟩; have HU := Lib.hid hb; clear ho hb)
              refine pieceEnd_normal ⟨HU.out, ?_⟩
              refine wpGrow_cons ?_
              refine wpQuiet_nil ?_
              have HD4 := Lib.hid (HLD.out.later HU.out)
              have HC4 : Hid (∀ x ∈ l2, PlOk z1 x ∧ Clear v1 x) := Lib.hid fun x hx => ⟨HD4.out.ok x hx, (HLD.out.ok x hx).clear (own_ge HO2.out.own)⟩
              go_wp2_with (at_builtin; go_must (refine wpList_app2 z1 rfl (.tmp 41) (.tmp 45) 27 27 48 rfl u0.heap.size Tryz.underlying27 stm_info rfl _ l1.length _ HO2.out.own rfl _ (l'.length - (E + 1)) (plsC l2) (Row.src HD4.out.row Tryz.underlying27 (plsC_one _)) rfl (by unfold maxLen; omega) (by omega) HU.out.size ?_); intro v5 z5 ho hb hkp hv; rw [← hk2] at ho; have HO6 := Lib.hid (HO2.out.app (m := l2) HC4.out ho hkp hv); have HF : Hid (Below u0.heap.size z1 z5) := Lib.hid hb; replace HU := Lib.hid (HU.out.trans hb); clear ho hb hkp hv)
              refine pieceEnd_normal ⟨HF.out, ?_⟩
              clear HF HD4 HC4 HO2
              refine wpGrow_nil ?_
              repeat (go_big_quiet_step (fail))
              refine wpQuiet_nil ?_
              obtain ⟨A5, c5, hv5, -⟩ := HO6.out.row
              subst hv5
              have hgu : g < u0.heap.size := HM.out.lt
              have hwu : w.heap.size ≤ u0.heap.size := by omega
              have HNF : Hid (LFree g (.slice A5 (l1 ++ l2).length c5) (l1 ++ l2)) := Lib.hid ⟨fun e => by have := own_ge HO6.out.own _ e; omega, fun p hp => HLF.out.2 p (HSUB.out p hp)⟩
              have HNG : Hid (LGot z5 w.heap.size (.slice A5 (l1 ++ l2).length c5) (l1 ++ l2)) := Lib.hid ⟨HO6.out.mono hwu, fun p hp => HLG.out.hi p (HSUB.out p hp), fun p hp => HLG.out.small p (HSUB.out p hp)⟩
              have hnl : (l1 ++ l2).length = l'.length - 1 := by rw [List.length_append, hk1, hk2]; omega
              have HNT : Hid (TimL (bt + 2 - (m : Int)) (l1 ++ l2)) := Lib.hid fun p hp => HTL.out p (HSUB.out p hp)
              replace HM := Lib.hid (HM.out.later HU.out)
              have HNL := Lib.hid hnl; clear hnl
              clear HLG HLF HO6 HU HLT HLD HLR
              go_wp2_with fail
              go_meet
              exact ⟨A5, c5, l1 ++ l2, _, rfl, by rw [HNL.out]; omega, by rw [HNL.out]; omega, Lib.hid ⟨HM.out, HNG.out, HNF.out⟩, HT, HNT⟩
            · have b0 : decide ((l'.length : Int) > 1) = false := decide_eq_false (by omega)
              have b1 : ¬ (1 : Int) < (l'.length : Int) := by omega
              have b2 : ¬ 1 < l'.length := hl2
              go_wp2_with fail
              go_meet
              exact ⟨A1, c1, l', _, rfl, hl1, Nat.le_refl _, Lib.hid ⟨HM.out, HLG.out, HLF.out⟩, HT, HTL⟩
        case rest =>
          obtain ⟨A2, c2, l2, p2, rfl, hk1, hk2, HQ2, HT2, HTL2⟩ := hcut
          have HM := Lib.hid HQ2.out.1; have HLG := Lib.hid HQ2.out.2.1; have HLF := Lib.hid HQ2.out.2.2
          clear HQ2
          go_wp2_with (refine wpList_load_row rfl 48 (.tmp 7) rfl g rfl 48 p2.arr (0, 0) _ HM.out.cur Tryz.underlying48 rfl p2.info ?_)
          refine (sealP_any p2 wc HM.out.ok HM.out.small).mono ?_
          rintro e y1 ⟨r, rfl, hrs, hro, hna, hnb, hb⟩
          have HRS : Hid (Small r.s) := Lib.hid (by rw [hrs]; exact seal_small7 HM.out.small)
          have HRT2 : Hid (0 ≤ r.s.time ∧ r.s.time ≤ bt + 3 - (m : Int)) := Lib.hid (by rw [hrs]; exact HT2.out)
          have HRO := Lib.hid hro
          have hgs : g < wc.heap.size := HM.out.lt
          have hws : wr.heap.size ≤ wc.heap.size := HM.out.rnd.but.size
          have HOF : Hid (OffB g r) := Lib.hid (OffB.high hgs hna hnb)
          have HRH : Hid (Hi wr.heap.size r) := Lib.hid ⟨fun ad e => Nat.le_trans hws (hna ad e), fun ad e => Nat.le_trans hws (hnb ad e)⟩
          have HCL := Lib.hid (clear_new (q := r) hna hnb (own_lt HLG.out.own.own))
          have HM1 := Lib.hid (HM.out.later hb); have HLG1 := Lib.hid (HLG.out.but (But.of (D := D) hb) hDw)
          clear hrs hro hna hnb hb HM HLG hgs hws
          go_upto_region 25 with (refine wpList_store_row rfl 48 (.tmp 7) (.tmp 97) rfl g r.arr rfl rfl 48 _ HM1.out.cur r.info rfl r.one ?_)
          have HM := Lib.hid (HM1.out.row r HRO.out HOF.out HRH.out HRS.out)
          have HLG := Lib.hid (HLG1.out.turn HLF.out (But.of_row g y1 r.arr))
          clear HM1 HLG1 HRO
          generalize y1.setRow g r.arr = y2 at *
          go_wp2_with (refine wpList_load_row rfl 48 (.tmp 7) rfl g rfl 48 r.arr (0, 0) _ HM.out.cur Tryz.underlying48 rfl r.info ?_)
          refine (checkP_any r y2 HM.out.ok HRS.out).mono ?_
          rintro e y3 ⟨rfl, hb⟩
          replace HM := Lib.hid (HM.out.later hb); replace HLG := Lib.hid (HLG.out.but (But.of (D := D) hb) hDw)
          clear hb
          generalize checkV r.s = cv
          have HRD : Hid (Rnd L D t w wr) := Lib.hid HQ.out.2
          clear HQ
          by_cases hcv : cv = 0
          · have b0 : (cv == 0) = true := by rw [hcv]; rfl
            clear hcv
            go_wp2_with fail
            refine (one_g L D t 3 y3 HM.out.rnd.dice (by omega) (by omega)).mono ?_
            rintro e y4 ⟨rb, rfl, hg⟩
            replace HM := Lib.hid (HM.out.gave hg); replace HLG := Lib.hid (HLG.out.but hg.2 hDw)
            clear hg b0
            have hm7 : 1 ≤ m := hm0
            cases rb
            · have hvs : r.arr.size = 13 := rfl
              have hln7 : l2.length ≤ 1000 := by omega
              go_wp2_with (first | (refine wpList_load_row rfl 48 (.tmp 7) rfl g rfl 48 r.arr (0, 0) _ HM.out.cur Tryz.underlying48 rfl r.info ?_) | (at_builtin; (first | rw [fold13] | (rw [← hvs, fold13])); go_must (refine wpList_app_newK y4 rfl (.tmp 106) (.tmp 108) 27 48 rfl w.heap.size Tryz.underlying27 stm_info rfl _ l2.length (plsC l2) HLG.out.own.own rfl 1 r.arr rfl r.ones rfl rfl (by unfold maxLen; omega) (by omega) (Nat.le_trans hwr HM.out.rnd.but.size) ?_); intro x3 z3 ho hb hk1 hk2; rw [show r.arr.toList = plsC [r] from rfl] at ho; have HO3 := Lib.hid (HLG.out.own.app (m := [r]) (fun s hs => by rw [List.mem_singleton.1 hs]; exact ⟨HM.out.ok, HCL.out⟩) ho hk1 hk2); have HB3 := Lib.hid hb; clear ho hb hk1 hk2))
              have HGT : Hid (LGot z3 w.heap.size x3 (l2 ++ [r])) := Lib.hid ⟨HO3.out, fun s hs => by
                rcases List.mem_append.1 hs with hs | hs
                · exact HLG.out.hi s hs
                · rw [List.mem_singleton.1 hs]; exact HRH.out.mono hwr, fun s hs => by
                rcases List.mem_append.1 hs with hs | hs
                · exact HLG.out.small s hs
                · rw [List.mem_singleton.1 hs]; exact HRS.out⟩
              have HRT : Hid (Rnd L D t w z3) := Lib.hid ⟨(HRD.out.but.trans HM.out.rnd.but).grow HB3.out, by obtain ⟨k, hk⟩ := HM.out.rnd.dice; exact ⟨k, hk.below HB3.out hDw⟩⟩
              refine ⟨⟨m - 1, l2 ++ [r], by go_num, by rw [List.length_append]; omega, by rw [List.length_append]; show l2.length + 1 + (m - 1) ≤ n + 2; omega, Lib.hid ((HTL2.out.mono (by omega)).app (TimL.one (by have h := HRT2.out; omega))), Lib.hid ⟨HGT.out, HRT.out⟩⟩, by simp [intOf]; omega⟩
            · go_wp2_with fail
              refine ⟨⟨m - 1, l2, by go_num, hk1, by omega, Lib.hid (HTL2.out.mono (by omega)), Lib.hid ⟨HLG.out, HRD.out.but.trans HM.out.rnd.but, HM.out.rnd.dice⟩⟩, by simp [intOf]; omega⟩
          · have b0 : (cv == 0) = false := by rw [beq_eq_false_iff_ne]; exact hcv
            clear hcv
            go_wp2_with fail
            refine ⟨⟨m - 1, l2, by go_num, hk1, by omega, Lib.hid (HTL2.out.mono (by omega)), Lib.hid ⟨HLG.out, HRD.out.but.trans HM.out.rnd.but, HM.out.rnd.dice⟩⟩, by simp [intOf]; omega⟩
      · have hm2 : ¬ (0 : Int) < (m : Int) := by omega
        go_wp2_with fail
        go_ret
        exact ⟨_, rfl, l', HQ.out.1, by omega, ⟨HQ.out.2.dice, HQ.out.2.but⟩, HTL.out.mono (by omega)⟩
end Go.Proofs.YtnmpbjgccbnomaaGreat
/- The walks of the dice's Lists and Store. -/
namespace Go.Proofs.YtnmpbjgccbnomaaGreat
open Go.RowKit
set_option maxRecDepth 100000 in
set_option maxHeartbeats 4000000 in
theorem lists_g (L D : Nat) (t : List Int) (a : Int) (an : Nat) (hae : a = (an : Int)) (most : Nat) (w : World) (h : ∃ k, DiceAt w L D t k) (ha : an ≤ 20) (hm : most ≤ 20) :
    Calls Tryz.prog 25 #[.pointer (some ⟨D, 0, none⟩), .int .i64 a, .int .i64 most] w fun e w' => ∃ v l, e = .returned v ∧ LGot w' w.heap.size v l ∧ l.length ≤ an * (most + 2) ∧ Gave L D t w w' ∧ TimL (12 + 20 * (most : Int)) l := by
  have hDw : D < w.heap.size := by obtain ⟨k, hk⟩ := h; exact hk.lt
  have HR0 : Hid (Rnd L D t w w) := Lib.hid ⟨But.refl _ _, h⟩
  have HMO : Hid (an * (most + 2) ≤ 440) := Lib.hid (Nat.mul_le_mul ha (by omega : most + 2 ≤ 22))
  have HAE := Lib.hid hae
  clear h hae
  go_enter Tryz.func25, Tryz.ntmps25
  go_wp2_with fail
  go_loopw [7, 8] (fun v i wr => ∃ (j : Nat) (l' : List Pl), j ≤ an ∧ i = .int .i64 j ∧ Hid (l'.length ≤ j * (most + 2)) ∧ Hid (TimL (12 + 20 * (most : Int)) l') ∧ Hid (LGot wr w.heap.size v l' ∧ Rnd L D t w wr)) (fun _ i _ => an - (intOf i).toNat)
  case atStart => exact ⟨0, [], Nat.zero_le _, rfl, Lib.hid (Nat.zero_le _), Lib.hid (fun _ h => (nomatch h)), Lib.hid ⟨LGot.nil _ _, HR0.out⟩⟩
  case round =>
    obtain ⟨j, l', hj, rfl, HLE, HTL, HQ⟩ := hrel
    clear HR0
    obtain ⟨A1, c1, hv, -⟩ := HQ.out.1.own.row
    subst hv
    by_cases hlt : j < an
    · have hlt2 : (j : Int) < a := by rw [HAE.out]; omega
      have hj1 : (0 : Int) ≤ (j : Int) ∧ (j : Int) ≤ 1000 := by omega
      go_wp2_with fail
      refine (chain_g L D t (j : Int) most wr HQ.out.2.dice hj1 hm).mono ?_
      rintro e w1 ⟨v1, l1, rfl, hg1, hl1, hg, ht1⟩
      have HTA := Lib.hid ht1
      have HL1 := Lib.hid (HQ.out.1.but hg.2 hDw)
      have HR1 := Lib.hid (HQ.out.2.gave hg)
      have hws : w.heap.size ≤ wr.heap.size := HQ.out.2.but.size
      obtain ⟨A2, c2, hv2, hr2⟩ := hg1.own.row
      subst hv2
      have HLR := Lib.hid hr2; have HSM := Lib.hid hg1.small
      clear hg1 hr2 hg ht1 HQ
      go_wp2_with fail
      refine (spoil_g L D t A2 l1.length c2 l1 w1 HR1.out.dice HLR.out (by omega) HSM.out (10 + 20 * (most : Int)) (by omega) HTA.out).mono ?_
      rintro e w2 ⟨v2, l2, rfl, hg2, hl2, hg, ht2⟩
      have HTB : Hid (TimL (12 + 20 * (most : Int)) l2) := Lib.hid (ht2.mono (by omega))
      clear ht2 HTA
      have HL2 := Lib.hid (HL1.out.but hg.2 hDw)
      have HR2 := Lib.hid (HR1.out.gave hg)
      have hws1 : w.heap.size ≤ w1.heap.size := HR1.out.but.size
      obtain ⟨A3, c3, hv3, hr3⟩ := hg2.own.row
      subst hv3
      have HG2 := Lib.hid hg2; have HR3 := Lib.hid hr3
      have HCL : Hid (∀ p ∈ l2, PlOk w2 p ∧ Clear (.slice A1 l'.length c1) p) := Lib.hid fun p hp => ⟨hr3.ok p hp, clear_new (w := w1) (q := p) (hg2.hi p hp).1 (hg2.hi p hp).2 (own_lt HL1.out.own.own)⟩
      clear hg2 hr3 hg HLR HSM HL1
      have hle : l'.length + l2.length ≤ 1000 := by have h1 := HLE.out; have h2 := HMO.out; have h3 : j * (most + 2) ≤ an * (most + 2) := Nat.mul_le_mul_right _ hj; omega
      have hll : l'.length ≤ 1000 := by omega
      go_wp2_with (at_builtin; go_must (refine wpList_app2 w2 rfl (.tmp 14) (.tmp 20) 27 27 48 rfl w.heap.size Tryz.underlying27 stm_info rfl _ l'.length (plsC l') HL2.out.own.own rfl _ l2.length (plsC l2) (Row.src HR3.out.row Tryz.underlying27 (plsC_one _)) rfl (by unfold maxLen; omega) (by omega) HR2.out.but.size ?_); intro v4 z4 ho hb hkp hv; have HO4 := Lib.hid (HL2.out.own.app (m := l2) HCL.out ho hkp hv); have HB4 := Lib.hid hb; clear ho hb hkp hv)
      have HGT : Hid (LGot z4 w.heap.size v4 (l' ++ l2)) := Lib.hid ⟨HO4.out, fun s hs => by
        rcases List.mem_append.1 hs with hs | hs
        · exact HL2.out.hi s hs
        · exact (HG2.out.hi s hs).mono hws1, fun s hs => by
        rcases List.mem_append.1 hs with hs | hs
        · exact HL2.out.small s hs
        · exact HG2.out.small s hs⟩
      have HRT : Hid (Rnd L D t w z4) := Lib.hid ⟨HR2.out.but.grow HB4.out, by obtain ⟨k, hk⟩ := HR2.out.dice; exact ⟨k, hk.below HB4.out hDw⟩⟩
      refine ⟨⟨j + 1, l' ++ l2, hlt, by go_num, Lib.hid ?_, Lib.hid (HTL.out.app HTB.out), Lib.hid ⟨HGT.out, HRT.out⟩⟩, by simp [intOf]; omega⟩
      have h1 := HLE.out
      rw [List.length_append, Nat.succ_mul]
      omega
    · have hlt2 : ¬ (j : Int) < a := by rw [HAE.out]; omega
      have hje : j = an := by omega
      go_wp2_with fail
      go_ret
      exact ⟨_, rfl, l', HQ.out.1, by rw [← hje]; exact HLE.out, ⟨HQ.out.2.dice, HQ.out.2.but⟩, HTL.out⟩
set_option maxRecDepth 100000 in
set_option maxHeartbeats 4000000 in
theorem dstore_g (L D : Nat) (t : List Int) (most : Nat) (w : World) (h : ∃ k, DiceAt w L D t k) (hm : most ≤ 20) :
    Calls Tryz.prog 9 #[.pointer (some ⟨D, 0, none⟩), .int .i64 most] w fun e w' => ∃ A2 c2 l, e = .returned (.agg #[.slice A2 (List.length l) c2]) ∧ LRow w' A2 l.length c2 l ∧ (∀ p ∈ l, Small p.s) ∧ l.length ≤ 110 ∧ Gave L D t w w' := by
  have hDw : D < w.heap.size := by obtain ⟨k, hk⟩ := h; exact hk.lt
  have HR0 : Hid (Rnd L D t w (w.alloc (.cells #[.slice none 0 0] 30))) := Lib.hid ((⟨But.refl _ _, h⟩ : Rnd L D t w w).later (one_new w _))
  have HX0 : Hid ((w.alloc (.cells #[.slice none 0 0] 30)).heap[w.heap.size]? = some (.cells #[.slice none 0 0] 30 (0, 0))) := Lib.hid (heap_alloc_new _ _)
  clear h
  go_enter Tryz.func9, Tryz.ntmps9
  go_wp2_with fail
  generalize w.alloc (.cells #[.slice none 0 0] 30) = y0 at *
  refine (next_g L D t 5 y0 HR0.out.dice (by omega) (by omega)).mono ?_
  rintro e w1 ⟨N0, rfl, hN0, hN1, hg⟩
  have HX1 : Hid (w1.heap[w.heap.size]? = some (.cells #[.slice none 0 0] 30 (0, 0))) := Lib.hid ((hg.2.block _ (Array.getElem?_eq_some_iff.1 HX0.out).1 (by omega)).trans HX0.out)
  have HR1 := Lib.hid (HR0.out.gave hg)
  clear hg HR0 HX0
  obtain ⟨N, rfl⟩ : ∃ N : Nat, N0 = (N : Int) := ⟨N0.toNat, by omega⟩
  have hN : 1 + N ≤ 20 := by omega
  have hNE : (1 : Int) + (N : Int) = ((1 + N : Nat) : Int) := by omega
  have HNE := Lib.hid hNE
  clear hNE
  go_wp2_with fail
  refine (lists_g L D t (1 + (N : Int)) (1 + N) HNE.out most w1 HR1.out.dice hN hm).mono ?_
  rintro e w2 ⟨v2, l2, rfl, hg2, hl2, hg, -⟩
  have HX2 : Hid (w2.heap[w.heap.size]? = some (.cells #[.slice none 0 0] 30 (0, 0))) := Lib.hid ((hg.2.block _ (Array.getElem?_eq_some_iff.1 HX1.out).1 (by omega)).trans HX1.out)
  have HR2 := Lib.hid (HR1.out.gave hg)
  have hle : l2.length ≤ 110 := Nat.le_trans hl2 (Nat.mul_le_mul (by omega : 1 + N ≤ 5) (by omega : most + 2 ≤ 22))
  obtain ⟨A3, c3, hv3, hr3⟩ := hg2.own.row
  subst hv3
  have HLR := Lib.hid hr3; have HSM := Lib.hid hg2.small
  clear hg hg2 hr3 HX1 HR1 hl2
  go_wp2_with fail
  refine (storeOfP_any A3 l2.length c3 l2 w2 HLR.out (by omega) HSM.out).mono ?_
  rintro e w3 ⟨A4, c4, l4, rfl, hm4, hr4, hb⟩
  have HX3 : Hid (w3.heap[w.heap.size]? = some (.cells #[.slice none 0 0] 30 (0, 0))) := Lib.hid ((hb.block _ (Array.getElem?_eq_some_iff.1 HX2.out).1).trans HX2.out)
  have HR3 := Lib.hid (HR2.out.later hb)
  have HR4 := Lib.hid hr4
  have HS4 : Hid (∀ p ∈ l4, Small p.s) := Lib.hid fun p hp => by
    have h1 : p.s ∈ storeL (l2.map (·.s)) := by rw [← hm4]; exact List.mem_map_of_mem hp
    obtain ⟨r, hr, he⟩ := List.mem_map.1 (storeL_mem h1).1
    rw [← he]; exact HSM.out r hr
  have hl4 : l4.length ≤ 110 := by
    have h1 := congrArg List.length hm4
    have h2 := storeL_len (l2.map (·.s))
    simp only [List.length_map] at h1 h2; omega
  clear hm4 hr4 hb HX2 HR2 HLR HSM
  go_wp2_with (refine wpList_store_row rfl 30 (.tmp 4) (.tmp 11) rfl w.heap.size #[.slice A4 l4.length c4] rfl rfl 30 _ HX3.out (by kernel_rfl) rfl (by simp [Value.oneCell']) ?_)
  refine bodyPost_ret (v := .agg #[.slice A4 l4.length c4]) (results_cell_row rfl _ _ w.heap.size 30 #[.slice A4 l4.length c4] (0, 0) _ rfl (setRow_heap _ _ _ #[.slice A4 l4.length c4] _ _ HX3.out) Tryz.underlying30 rfl (by kernel_rfl)) rfl ?_
  have HR5 := HR3.out.row w.heap.size (Nat.le_refl _) hDw #[.slice A4 l4.length c4]
  exact ⟨A4, c4, l4, rfl, HR4.out.set HX3.out _, HS4.out, hl4, HR5.dice, HR5.but⟩
end Go.Proofs.YtnmpbjgccbnomaaGreat
/- The law of layer 9's sanity check, over any program that gives what layer 9 asks. -/
namespace Go.Proofs.YtnmpbjgccbnomaaGreat
open Go.RowKit
/-- A call that gives a list of statements. -/
def GivesL (w : World) (S : List Stm) (e : Ending) (w' : World) : Prop := ∃ A2 c2 l', e = .returned (.slice A2 (List.length l') c2) ∧ l'.map (·.s) = S ∧ LRow w' A2 l'.length c2 l' ∧ Below w.heap.size w w'
theorem GivesL.of_own {w w' : World} {S : List Stm} {e : Ending} (h : ∃ v l', e = .returned v ∧ l'.map (·.s) = S ∧ LOwn w' w.heap.size v l' ∧ Below w.heap.size w w') : GivesL w S e w' := by
  obtain ⟨v, l', rfl, hm, ho, hb⟩ := h
  obtain ⟨A, c, rfl, hr⟩ := ho.row
  exact ⟨A, c, l', rfl, hm, hr, hb⟩
end Go.Proofs.YtnmpbjgccbnomaaGreat
/- The walks of epoch's taken, Until, Window. -/
namespace Go.Proofs.YtnmpbjgccbnomaaGreat
open Go.RowKit
set_option maxRecDepth 100000 in
set_option maxHeartbeats 4000000 in
theorem eTaken_any (f : Stm → Bool) (g : Nat) (cb : Array Value) (A : Option Addr) (n c : Nat) (l : List Pl) (w : World) (hl : LRow w A n c l) (hn : n ≤ 100000)
    (eg : ∀ args w, (callFunc g args).run Tryz.prog w = .ok (.enter g args) w) (hf : ∀ y (p : Pl), Below w.heap.size w y → Calls Tryz.prog g (#[.agg p.arr] ++ cb) y (SaysL (.bool (f p.s)) y)) :
    Calls Tryz.prog 75 #[.slice A n c, .func (.func g) #[] cb] w (GivesL w ((l.map (·.s)).filter f)) := by
  refine Calls.mono ?_ fun e w' h => GivesL.of_own h
  have HL := Lib.hid hl; have HLN := Lib.hid hl.len; have HF := Lib.hid hf
  clear hl hf
  go_enter Tryz.func75, Tryz.ntmps75
  go_wp2_with fail
  go_loopw [5, 10] (fun v i wr => ∃ (j : Nat) (l' : List Pl), j ≤ n ∧ i = .int .i64 j ∧ Hid (LOwn wr w.heap.size v l' ∧ l'.map (·.s) = ((l.take j).map (·.s)).filter f ∧ Below w.heap.size w wr)) (fun _ i _ => n - (intOf i).toNat)
  case atStart => exact ⟨0, [], Nat.zero_le _, rfl, Lib.hid ⟨LOwn.nil _ _, rfl, Below.refl _ _⟩⟩
  case round =>
    obtain ⟨j, l', hj, rfl, HQ⟩ := hrel
    by_cases hlt : j < n
    · have hlt2 : (j : Int) < (n : Int) := by omega
      have HLJ := Lib.hid (HL.out.later HQ.out.2.2)
      obtain ⟨b, off, hA, hc⟩ := HLJ.out.cells j hlt
      subst hA
      have HOK := Lib.hid (HLJ.out.at j hlt)
      have HT : Hid (((l.take (j + 1)).map (·.s)).filter f = ((l.take j).map (·.s)).filter f ++ [(l.getD j noPl).s].filter f) := Lib.hid (by rw [take_snocP l j (by rw [HLN.out]; exact hlt), List.map_append, List.filter_append]; rfl)
      have HC := Lib.hid hc
      have HCL : Hid (Clear u5 (l.getD j noPl)) := Lib.hid (HL.out.clear (Nat.le_refl _) (fun k e => own_ge HQ.out.1.own k e) _ (HL.out.get j hlt))
      clear hc HLJ
      have HLE : Hid (l'.length ≤ n) := Lib.hid (by have h := congrArg List.length HQ.out.2.1; have h2 := List.length_filter_le f ((l.take j).map (·.s)); simp only [List.length_map, List.length_take] at h h2; omega)
      generalize l.getD j noPl = q at *
      have HN := Lib.hid (one_new wr (.cells q.arr 48))
      have HX : Hid ((wr.alloc (.cells q.arr 48)).heap[wr.heap.size]? = some (.cells q.arr 48 (0, 0))) := Lib.hid (heap_alloc_new _ _)
      have HB := Lib.hid (HQ.out.2.2.trans (HN.out.mono HQ.out.2.2.size))
      have HO := Lib.hid (HQ.out.1.later HN.out)
      have HOK2 := Lib.hid (HOK.out.later HN.out)
      have HM := Lib.hid HQ.out.2.1
      go_upto_region 5 with (first | (refine wpList_load_cells rfl 48 (.tmp 12) rfl b (off + j * 13) rfl q.arr _ Tryz.underlying48 rfl q.info HC.out ?_) | (refine wpList_store_new rfl 48 (.tmp 7) (.tmp 13) rfl 48 _ q.arr rfl rfl q.info rfl q.one ?_))
      clear HQ HC HOK HN
      generalize wr.alloc (.cells q.arr 48) = x2 at *
      generalize wr.heap.size = gb at *
      by_cases hb : f q.s = true
      · have HT2 : Hid (((l.take (j + 1)).map (·.s)).filter f = ((l.take j).map (·.s)).filter f ++ [q.s]) := Lib.hid (by rw [HT.out, List.filter_cons_of_pos hb, List.filter_nil])
        have HFC := Lib.hid (HF.out x2 q HB.out)
        rw [hb] at HFC
        go_wp2_with (refine wpList_load_row rfl 48 (.tmp 7) rfl gb rfl 48 q.arr (0, 0) _ HX.out Tryz.underlying48 rfl q.info ?_)
        refine HFC.out.mono ?_
        rintro e w2 ⟨rfl, hbw⟩
        have HX2 := Lib.hid ((hbw.block _ (Array.getElem?_eq_some_iff.1 HX.out).1).trans HX.out)
        have HO2 := Lib.hid (HO.out.later hbw); have HB2 := Lib.hid (HB.out.trans (hbw.mono HB.out.size)); have HOK3 := Lib.hid (HOK2.out.later hbw)
        clear hbw HX HO HB HOK2 HFC
        have hle := HLE.out
        have hvs : q.arr.size = 13 := rfl
        go_wp2_with (first | (refine wpList_load_row rfl 48 (.tmp 7) rfl gb rfl 48 q.arr (0, 0) _ HX2.out Tryz.underlying48 rfl q.info ?_) | (at_builtin; (first | rw [fold13] | (rw [← hvs, fold13])); go_must (refine wpList_app_newK w2 rfl (.tmp 17) (.tmp 19) 27 48 rfl w.heap.size Tryz.underlying27 stm_info rfl _ l'.length (plsC l') HO2.out.own rfl 1 q.arr rfl q.ones rfl rfl (by unfold maxLen; omega) (by omega) HB2.out.size ?_); intro x3 z3 ho hb3 hk1 hk2; rw [show q.arr.toList = plsC [q] from rfl] at ho; have HO3 := Lib.hid (HO2.out.app (m := [q]) (fun r hr => by rw [List.mem_singleton.1 hr]; exact ⟨HOK3.out, HCL.out⟩) ho hk1 hk2); have HB3 := Lib.hid (HB2.out.trans hb3); clear ho hb3 hk1 hk2))
        refine ⟨⟨j + 1, l' ++ [q], hlt, by go_num, Lib.hid ⟨HO3.out, ?_, HB3.out⟩⟩, by simp [intOf]; omega⟩
        rw [List.map_append, HM.out, HT2.out, List.map_cons, List.map_nil]
      · have HT2 : Hid (((l.take (j + 1)).map (·.s)).filter f = ((l.take j).map (·.s)).filter f) := Lib.hid (by rw [HT.out, List.filter_cons_of_neg hb, List.filter_nil, List.append_nil])
        have HFC := Lib.hid (HF.out x2 q HB.out)
        rw [show f q.s = false by simpa using hb] at HFC
        clear hb
        go_wp2_with (refine wpList_load_row rfl 48 (.tmp 7) rfl gb rfl 48 q.arr (0, 0) _ HX.out Tryz.underlying48 rfl q.info ?_)
        refine HFC.out.mono ?_
        rintro e w2 ⟨rfl, hbw⟩
        have HO2 := Lib.hid (HO.out.later hbw); have HB2 := Lib.hid (HB.out.trans (hbw.mono HB.out.size))
        clear hbw HX HO HB HOK2 HFC
        go_wp2_with fail
        refine ⟨⟨j + 1, l', hlt, by go_num, Lib.hid ⟨HO2.out, ?_, HB2.out⟩⟩, by simp [intOf]; omega⟩
        rw [HM.out, HT2.out]
    · have hlt2 : ¬ (j : Int) < (n : Int) := by omega
      have HE : Hid (j = n) := by unfold Hid; omega
      go_wp2_with fail
      go_ret
      exact ⟨_, rfl, l', by rw [HQ.out.2.1, HE.out, List.take_of_length_le (by rw [HLN.out]; exact Nat.le_refl _)], HQ.out.1, HQ.out.2.2⟩
set_option maxRecDepth 100000 in
set_option maxHeartbeats 4000000 in
theorem eUntil1_any (tm : Int) (bt : Nat) (p : Pl) (w : World) (ht : w.cell? ⟨bt, 0, none⟩ = some (.int .i64 tm)) (hb : bt < w.heap.size) : Calls Tryz.prog 76 #[.agg p.arr, .pointer (some ⟨bt, 0, none⟩)] w (SaysL (.bool (decide (p.s.time ≤ tm))) w) := by
  have hp : (w.alloc (.cells p.arr 48)).cell? ⟨w.heap.size, 3, none⟩ = some (.int .i64 p.s.time) := (cell_of_row _ _ 3 _ _ _ (heap_alloc_new w (.cells p.arr 48))).trans rfl
  have ht2 : (w.alloc (.cells p.arr 48)).cell? ⟨bt, 0, none⟩ = some (.int .i64 tm) := (Below.cell (one_new w _) hb).trans ht
  have HN := Lib.hid (one_new w (.cells p.arr 48))
  clear ht
  unfold Pl.arr at *
  go_enter Tryz.func76, Tryz.ntmps76
  go_wp2_with fail
  go_ret
  exact ⟨rfl, HN.out⟩
set_option maxRecDepth 100000 in
set_option maxHeartbeats 4000000 in
theorem eUntil_any (A : Option Addr) (n c : Nat) (l : List Pl) (tm : Int) (w : World) (hl : LRow w A n c l) (hn : n ≤ 100000) : Calls Tryz.prog 48 #[.slice A n c, .int .i64 tm] w (GivesL w (untilS tm (l.map (·.s)))) := by
  have HN := Lib.hid (one_new w (.cells #[.int .i64 tm] 3))
  have hc : (w.alloc (.cells #[.int .i64 tm] 3)).cell? ⟨w.heap.size, 0, none⟩ = some (.int .i64 tm) := (cell_of_row _ _ 0 _ _ _ (heap_alloc_new w _)).trans rfl
  have hs : w.heap.size < (w.alloc (.cells #[.int .i64 tm] 3)).heap.size := by simp
  have HT := Lib.hid (eTaken_any (fun s => decide (s.time ≤ tm)) 76 #[.pointer (some ⟨w.heap.size, 0, none⟩)] A n c l _ (hl.later HN.out) hn (enters_of Tryz.func76 (by kernel_rfl) rfl) fun y p hb => eUntil1_any tm w.heap.size p y ((Below.cell hb hs).trans hc) (Nat.lt_of_lt_of_le hs hb.size))
  clear hl hc hs
  go_enter Tryz.func48, Tryz.ntmps48
  go_wp2_with fail
  refine HT.out.mono ?_
  rintro e w1 ⟨A2, c2, l2, rfl, hm, hr, hb⟩
  have HM := Lib.hid hm; have HR := Lib.hid hr; have HB := Lib.hid (HN.out.trans (hb.mono HN.out.size))
  clear hm hr hb HN HT
  go_wp2_with fail
  go_ret
  exact ⟨A2, c2, l2, rfl, HM.out, HR.out, HB.out⟩
end Go.Proofs.YtnmpbjgccbnomaaGreat
