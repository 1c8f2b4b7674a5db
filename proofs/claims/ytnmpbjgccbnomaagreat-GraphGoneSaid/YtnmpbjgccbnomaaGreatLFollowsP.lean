import Derived.Test.YtnmpbjgccbnomaaGreatLOwnPP
/- The walk of the reference's Follows. -/
namespace Go.Proofs.YtnmpbjgccbnomaaGreat
open Go.RowKit
def followsR (a b : Stm) : Bool := decide (b.author = a.author) && (decide (b.number = a.number + 1) && (decide (b.prev = digS a) && decide (a.time ≤ b.time)))
set_option maxRecDepth 100000 in
set_option maxHeartbeats 4000000 in
theorem followsP_any (p q : Pl) (w : World) (hp : PlOk w p) (hs : Small p.s) (h1 : 0 ≤ p.s.number ∧ p.s.number ≤ 1000000) :
    Calls Tryz.prog 43 #[.agg p.arr, .agg q.arr] w (SaysL (.bool (followsR p.s q.s)) w) := by
  have HP := Lib.hid hp; have HS := Lib.hid hs
  have HX : Hid (((w.alloc (.cells p.arr 48)).alloc (.cells q.arr 48)).heap[w.heap.size]? = some (.cells p.arr 48 (0, 0))) := Lib.hid ((Below.heap_alloc _ _ _ (by simp)).trans (heap_alloc_new _ _))
  have HY : Hid (((w.alloc (.cells p.arr 48)).alloc (.cells q.arr 48)).heap[w.heap.size + 1]? = some (.cells q.arr 48 (0, 0))) := Lib.hid (heap_alloc2_new _ _ _)
  have HB : Hid (Below w.heap.size w ((w.alloc (.cells p.arr 48)).alloc (.cells q.arr 48))) := Lib.hid ((one_new w _).trans ((one_new _ _).mono (by simp)))
  have HDG : Hid (∀ y, Below w.heap.size w y → Calls Tryz.prog 66 #[.agg p.arr] y (SaysL (.string (digS p.s)) y)) := Lib.hid fun y h => digestP_any p y (HP.out.later h) HS.out
  clear hp hs HP HS
  go_enter Tryz.func43, Tryz.ntmps43
  go_wp2_with fail
  by_cases a1 : q.s.author = p.s.author
  · have b1 : (q.s.author == p.s.author) = true := by simpa using a1
    by_cases a3 : q.s.number = p.s.number + 1
    · have b2 : decide (p.s.number < q.s.number) = true := by simp; omega
      have b3 : (q.s.number == p.s.number + 1) = true := by simpa using a3
      by_cases a4 : q.s.prev = digS p.s
      · have b4 : (q.s.prev.toList == (digS p.s).toList) = true := by simp [a4]
        by_cases a5 : p.s.time ≤ q.s.time
        · have b5 : decide (p.s.time ≤ q.s.time) = true := by simpa using a5
          have HV : Hid (followsR p.s q.s = true) := Lib.hid (by rw [followsR, decide_eq_true a1, decide_eq_true a3, decide_eq_true a4, decide_eq_true a5]; rfl)
          clear a1 a3 a4 a5
          generalize digS p.s = D at HDG b4
          refine wp_region_grow (by kernel_rfl) Later Later.refl (fun _ _ _ => Later.trans) [25, 26, 27, 28, 29, 30, 31, 32, 33, 34] [([0, 1, 2, 3, 4, 5, 6, 7, 8, 9, 10, 11, 12, 13, 14, 15, 16, 17, 18, 19, 20, 21, 22, 23], 24)] (by kernel_rfl) (by kernel_rfl) (by kernel_rfl) ?_
          simp only [List.map_cons, List.map_nil, pick, List.getD_cons_zero, List.getD_cons_succ]
          have HX1 : Hid (((w.alloc (.cells p.arr 48)).alloc (.cells q.arr 48)).drew.heap[w.heap.size]? = some (.cells p.arr 48 (0, 0))) := Lib.hid HX.out
          have HY1 : Hid (((w.alloc (.cells p.arr 48)).alloc (.cells q.arr 48)).drew.heap[w.heap.size + 1]? = some (.cells q.arr 48 (0, 0))) := Lib.hid HY.out
          have HB1 : Hid (Below w.heap.size w ((w.alloc (.cells p.arr 48)).alloc (.cells q.arr 48)).drew) := Lib.hid HB.out.drew
          clear HX HY HB
          generalize ((w.alloc (.cells p.arr 48)).alloc (.cells q.arr 48)).drew = z0 at *
          have hlx : w.heap.size < z0.heap.size := (Array.getElem?_eq_some_iff.1 HX1.out).1
          have hly : w.heap.size + 1 < z0.heap.size := (Array.getElem?_eq_some_iff.1 HY1.out).1
          have hf0 : ∀ x, (fut Later z0 x).cell? ⟨w.heap.size, 0, none⟩ = some (.int .i64 p.s.author) := fun x => (cell_of_row _ _ 0 _ _ _ (((fut_ok Later.refl z0 x).block _ hlx).trans HX1.out)).trans rfl
          have hg0 : ∀ x, (fut Later z0 x).cell? ⟨w.heap.size + 1, 0, none⟩ = some (.int .i64 q.s.author) := fun x => (cell_of_row _ _ 0 _ _ _ (((fut_ok Later.refl z0 x).block _ hly).trans HY1.out)).trans rfl
          have hf1 : ∀ x, (fut Later z0 x).cell? ⟨w.heap.size, 1, none⟩ = some (.int .i64 p.s.number) := fun x => (cell_of_row _ _ 1 _ _ _ (((fut_ok Later.refl z0 x).block _ hlx).trans HX1.out)).trans rfl
          have hg1 : ∀ x, (fut Later z0 x).cell? ⟨w.heap.size + 1, 1, none⟩ = some (.int .i64 q.s.number) := fun x => (cell_of_row _ _ 1 _ _ _ (((fut_ok Later.refl z0 x).block _ hly).trans HY1.out)).trans rfl
          have hf2 : ∀ x, (fut Later z0 x).cell? ⟨w.heap.size, 2, none⟩ = some (.string p.s.prev) := fun x => (cell_of_row _ _ 2 _ _ _ (((fut_ok Later.refl z0 x).block _ hlx).trans HX1.out)).trans rfl
          have hg2 : ∀ x, (fut Later z0 x).cell? ⟨w.heap.size + 1, 2, none⟩ = some (.string q.s.prev) := fun x => (cell_of_row _ _ 2 _ _ _ (((fut_ok Later.refl z0 x).block _ hly).trans HY1.out)).trans rfl
          have hfl : ∀ x, (loadVar 48 ⟨w.heap.size, 0, none⟩).run Tryz.prog (fut Later z0 x) = .ok (.agg p.arr) (fut Later z0 x) := cells_futs (p := p) (off := 0) fun x j _ => box_futs (F := Later) Later.refl (fun _ h => h.block _ hlx) HX1.out x j
          clear hlx hly
          refine wpGrow_cons ?_
          repeat (first | (refine wpQuiet_load rfl 48 (.tmp 2) rfl ⟨w.heap.size, 0, none⟩ rfl (.agg p.arr) (fun w' h => by obtain ⟨x, rfl⟩ := h; exact hfl x) ?_; simp only [Act.put, List.setIfInBounds_toArray, List.set_cons_succ, List.set_cons_zero]) | go_big_quiet_step (fail))
          refine wpQuiet_nil ?_
          clear hf0 hg0 hf1 hg1 hf2 hg2 hfl
          go_wp2_with fail
          refine (HDG.out z0 HB1.out).mono ?_
          rintro e w2 ⟨rfl, hb⟩
          have HF : Hid (Later z0 w2) := Lib.hid hb
          have hlx : w.heap.size < w2.heap.size := Nat.lt_of_lt_of_le (Array.getElem?_eq_some_iff.1 HX1.out).1 hb.size
          have hly : w.heap.size + 1 < w2.heap.size := Nat.lt_of_lt_of_le (Array.getElem?_eq_some_iff.1 HY1.out).1 hb.size
          have HX2 := Lib.hid ((hb.block _ (Array.getElem?_eq_some_iff.1 HX1.out).1).trans HX1.out); have HY2 := Lib.hid ((hb.block _ (Array.getElem?_eq_some_iff.1 HY1.out).1).trans HY1.out)
          have HB2 := Lib.hid (HB1.out.trans (hb.mono HB1.out.size))
          clear hb HX1 HY1 HB1
          go_wp2_with fail
          refine pieceEnd_normal ⟨HF.out, ?_⟩
          clear HF
          have hf2 : ∀ x, (fut Later w2 x).cell? ⟨w.heap.size, 2, none⟩ = some (.string p.s.prev) := fun x => (cell_of_row _ _ 2 _ _ _ (((fut_ok Later.refl w2 x).block _ hlx).trans HX2.out)).trans rfl
          have hg2 : ∀ x, (fut Later w2 x).cell? ⟨w.heap.size + 1, 2, none⟩ = some (.string q.s.prev) := fun x => (cell_of_row _ _ 2 _ _ _ (((fut_ok Later.refl w2 x).block _ hly).trans HY2.out)).trans rfl
          have hf3 : ∀ x, (fut Later w2 x).cell? ⟨w.heap.size, 3, none⟩ = some (.int .i64 p.s.time) := fun x => (cell_of_row _ _ 3 _ _ _ (((fut_ok Later.refl w2 x).block _ hlx).trans HX2.out)).trans rfl
          have hg3 : ∀ x, (fut Later w2 x).cell? ⟨w.heap.size + 1, 3, none⟩ = some (.int .i64 q.s.time) := fun x => (cell_of_row _ _ 3 _ _ _ (((fut_ok Later.refl w2 x).block _ hly).trans HY2.out)).trans rfl
          clear hlx hly
          refine wpGrow_nil ?_
          repeat (go_big_quiet_step (fail))
          refine wpQuiet_nil ?_
          go_wp2_with fail
          go_ret
          exact ⟨by rw [HV.out]; first | done | rfl, HB2.out⟩
        · have b5 : decide (p.s.time ≤ q.s.time) = false := by simpa using a5
          have HV : Hid (followsR p.s q.s = false) := Lib.hid (by rw [followsR, decide_eq_false a5, Bool.and_false, Bool.and_false, Bool.and_false])
          clear a1 a3 a4 a5
          generalize digS p.s = D at HDG b4
          refine wp_region_grow (by kernel_rfl) Later Later.refl (fun _ _ _ => Later.trans) [25, 26, 27, 28, 29, 30, 31, 32, 33, 34] [([0, 1, 2, 3, 4, 5, 6, 7, 8, 9, 10, 11, 12, 13, 14, 15, 16, 17, 18, 19, 20, 21, 22, 23], 24)] (by kernel_rfl) (by kernel_rfl) (by kernel_rfl) ?_
          simp only [List.map_cons, List.map_nil, pick, List.getD_cons_zero, List.getD_cons_succ]
          have HX1 : Hid (((w.alloc (.cells p.arr 48)).alloc (.cells q.arr 48)).drew.heap[w.heap.size]? = some (.cells p.arr 48 (0, 0))) := Lib.hid HX.out
          have HY1 : Hid (((w.alloc (.cells p.arr 48)).alloc (.cells q.arr 48)).drew.heap[w.heap.size + 1]? = some (.cells q.arr 48 (0, 0))) := Lib.hid HY.out
          have HB1 : Hid (Below w.heap.size w ((w.alloc (.cells p.arr 48)).alloc (.cells q.arr 48)).drew) := Lib.hid HB.out.drew
          clear HX HY HB
          generalize ((w.alloc (.cells p.arr 48)).alloc (.cells q.arr 48)).drew = z0 at *
          have hlx : w.heap.size < z0.heap.size := (Array.getElem?_eq_some_iff.1 HX1.out).1
          have hly : w.heap.size + 1 < z0.heap.size := (Array.getElem?_eq_some_iff.1 HY1.out).1
          have hf0 : ∀ x, (fut Later z0 x).cell? ⟨w.heap.size, 0, none⟩ = some (.int .i64 p.s.author) := fun x => (cell_of_row _ _ 0 _ _ _ (((fut_ok Later.refl z0 x).block _ hlx).trans HX1.out)).trans rfl
          have hg0 : ∀ x, (fut Later z0 x).cell? ⟨w.heap.size + 1, 0, none⟩ = some (.int .i64 q.s.author) := fun x => (cell_of_row _ _ 0 _ _ _ (((fut_ok Later.refl z0 x).block _ hly).trans HY1.out)).trans rfl
          have hf1 : ∀ x, (fut Later z0 x).cell? ⟨w.heap.size, 1, none⟩ = some (.int .i64 p.s.number) := fun x => (cell_of_row _ _ 1 _ _ _ (((fut_ok Later.refl z0 x).block _ hlx).trans HX1.out)).trans rfl
          have hg1 : ∀ x, (fut Later z0 x).cell? ⟨w.heap.size + 1, 1, none⟩ = some (.int .i64 q.s.number) := fun x => (cell_of_row _ _ 1 _ _ _ (((fut_ok Later.refl z0 x).block _ hly).trans HY1.out)).trans rfl
          have hf2 : ∀ x, (fut Later z0 x).cell? ⟨w.heap.size, 2, none⟩ = some (.string p.s.prev) := fun x => (cell_of_row _ _ 2 _ _ _ (((fut_ok Later.refl z0 x).block _ hlx).trans HX1.out)).trans rfl
          have hg2 : ∀ x, (fut Later z0 x).cell? ⟨w.heap.size + 1, 2, none⟩ = some (.string q.s.prev) := fun x => (cell_of_row _ _ 2 _ _ _ (((fut_ok Later.refl z0 x).block _ hly).trans HY1.out)).trans rfl
          have hfl : ∀ x, (loadVar 48 ⟨w.heap.size, 0, none⟩).run Tryz.prog (fut Later z0 x) = .ok (.agg p.arr) (fut Later z0 x) := cells_futs (p := p) (off := 0) fun x j _ => box_futs (F := Later) Later.refl (fun _ h => h.block _ hlx) HX1.out x j
          clear hlx hly
          refine wpGrow_cons ?_
          repeat (first | (refine wpQuiet_load rfl 48 (.tmp 2) rfl ⟨w.heap.size, 0, none⟩ rfl (.agg p.arr) (fun w' h => by obtain ⟨x, rfl⟩ := h; exact hfl x) ?_; simp only [Act.put, List.setIfInBounds_toArray, List.set_cons_succ, List.set_cons_zero]) | go_big_quiet_step (fail))
          refine wpQuiet_nil ?_
          clear hf0 hg0 hf1 hg1 hf2 hg2 hfl
          go_wp2_with fail
          refine (HDG.out z0 HB1.out).mono ?_
          rintro e w2 ⟨rfl, hb⟩
          have HF : Hid (Later z0 w2) := Lib.hid hb
          have hlx : w.heap.size < w2.heap.size := Nat.lt_of_lt_of_le (Array.getElem?_eq_some_iff.1 HX1.out).1 hb.size
          have hly : w.heap.size + 1 < w2.heap.size := Nat.lt_of_lt_of_le (Array.getElem?_eq_some_iff.1 HY1.out).1 hb.size
          have HX2 := Lib.hid ((hb.block _ (Array.getElem?_eq_some_iff.1 HX1.out).1).trans HX1.out); have HY2 := Lib.hid ((hb.block _ (Array.getElem?_eq_some_iff.1 HY1.out).1).trans HY1.out)
          have HB2 := Lib.hid (HB1.out.trans (hb.mono HB1.out.size))
          clear hb HX1 HY1 HB1
          go_wp2_with fail
          refine pieceEnd_normal ⟨HF.out, ?_⟩
          clear HF
          have hf2 : ∀ x, (fut Later w2 x).cell? ⟨w.heap.size, 2, none⟩ = some (.string p.s.prev) := fun x => (cell_of_row _ _ 2 _ _ _ (((fut_ok Later.refl w2 x).block _ hlx).trans HX2.out)).trans rfl
          have hg2 : ∀ x, (fut Later w2 x).cell? ⟨w.heap.size + 1, 2, none⟩ = some (.string q.s.prev) := fun x => (cell_of_row _ _ 2 _ _ _ (((fut_ok Later.refl w2 x).block _ hly).trans HY2.out)).trans rfl
          have hf3 : ∀ x, (fut Later w2 x).cell? ⟨w.heap.size, 3, none⟩ = some (.int .i64 p.s.time) := fun x => (cell_of_row _ _ 3 _ _ _ (((fut_ok Later.refl w2 x).block _ hlx).trans HX2.out)).trans rfl
          have hg3 : ∀ x, (fut Later w2 x).cell? ⟨w.heap.size + 1, 3, none⟩ = some (.int .i64 q.s.time) := fun x => (cell_of_row _ _ 3 _ _ _ (((fut_ok Later.refl w2 x).block _ hly).trans HY2.out)).trans rfl
          clear hlx hly
          refine wpGrow_nil ?_
          repeat (go_big_quiet_step (fail))
          refine wpQuiet_nil ?_
          go_wp2_with fail
          go_ret
          exact ⟨by rw [HV.out]; first | done | rfl, HB2.out⟩
      · have b4 : (q.s.prev.toList == (digS p.s).toList) = false := by rw [beq_eq_false_iff_ne]; exact fun h => a4 ((toList_iff _ _).1 h)
        have HV : Hid (followsR p.s q.s = false) := Lib.hid (by rw [followsR, decide_eq_false a4, Bool.false_and, Bool.and_false, Bool.and_false])
        clear a1 a3 a4
        generalize digS p.s = D at HDG b4
        refine wp_region_grow (by kernel_rfl) Later Later.refl (fun _ _ _ => Later.trans) [25, 26, 27, 28, 29, 30, 31, 32, 33, 34] [([0, 1, 2, 3, 4, 5, 6, 7, 8, 9, 10, 11, 12, 13, 14, 15, 16, 17, 18, 19, 20, 21, 22, 23], 24)] (by kernel_rfl) (by kernel_rfl) (by kernel_rfl) ?_
        simp only [List.map_cons, List.map_nil, pick, List.getD_cons_zero, List.getD_cons_succ]
        have HX1 : Hid (((w.alloc (.cells p.arr 48)).alloc (.cells q.arr 48)).drew.heap[w.heap.size]? = some (.cells p.arr 48 (0, 0))) := Lib.hid HX.out
        have HY1 : Hid (((w.alloc (.cells p.arr 48)).alloc (.cells q.arr 48)).drew.heap[w.heap.size + 1]? = some (.cells q.arr 48 (0, 0))) := Lib.hid HY.out
        have HB1 : Hid (Below w.heap.size w ((w.alloc (.cells p.arr 48)).alloc (.cells q.arr 48)).drew) := Lib.hid HB.out.drew
        clear HX HY HB
        generalize ((w.alloc (.cells p.arr 48)).alloc (.cells q.arr 48)).drew = z0 at *
        have hlx : w.heap.size < z0.heap.size := (Array.getElem?_eq_some_iff.1 HX1.out).1
        have hly : w.heap.size + 1 < z0.heap.size := (Array.getElem?_eq_some_iff.1 HY1.out).1
        have hf0 : ∀ x, (fut Later z0 x).cell? ⟨w.heap.size, 0, none⟩ = some (.int .i64 p.s.author) := fun x => (cell_of_row _ _ 0 _ _ _ (((fut_ok Later.refl z0 x).block _ hlx).trans HX1.out)).trans rfl
        have hg0 : ∀ x, (fut Later z0 x).cell? ⟨w.heap.size + 1, 0, none⟩ = some (.int .i64 q.s.author) := fun x => (cell_of_row _ _ 0 _ _ _ (((fut_ok Later.refl z0 x).block _ hly).trans HY1.out)).trans rfl
        have hf1 : ∀ x, (fut Later z0 x).cell? ⟨w.heap.size, 1, none⟩ = some (.int .i64 p.s.number) := fun x => (cell_of_row _ _ 1 _ _ _ (((fut_ok Later.refl z0 x).block _ hlx).trans HX1.out)).trans rfl
        have hg1 : ∀ x, (fut Later z0 x).cell? ⟨w.heap.size + 1, 1, none⟩ = some (.int .i64 q.s.number) := fun x => (cell_of_row _ _ 1 _ _ _ (((fut_ok Later.refl z0 x).block _ hly).trans HY1.out)).trans rfl
        have hf2 : ∀ x, (fut Later z0 x).cell? ⟨w.heap.size, 2, none⟩ = some (.string p.s.prev) := fun x => (cell_of_row _ _ 2 _ _ _ (((fut_ok Later.refl z0 x).block _ hlx).trans HX1.out)).trans rfl
        have hg2 : ∀ x, (fut Later z0 x).cell? ⟨w.heap.size + 1, 2, none⟩ = some (.string q.s.prev) := fun x => (cell_of_row _ _ 2 _ _ _ (((fut_ok Later.refl z0 x).block _ hly).trans HY1.out)).trans rfl
        have hfl : ∀ x, (loadVar 48 ⟨w.heap.size, 0, none⟩).run Tryz.prog (fut Later z0 x) = .ok (.agg p.arr) (fut Later z0 x) := cells_futs (p := p) (off := 0) fun x j _ => box_futs (F := Later) Later.refl (fun _ h => h.block _ hlx) HX1.out x j
        clear hlx hly
        refine wpGrow_cons ?_
        repeat (first | (refine wpQuiet_load rfl 48 (.tmp 2) rfl ⟨w.heap.size, 0, none⟩ rfl (.agg p.arr) (fun w' h => by obtain ⟨x, rfl⟩ := h; exact hfl x) ?_; simp only [Act.put, List.setIfInBounds_toArray, List.set_cons_succ, List.set_cons_zero]) | go_big_quiet_step (fail))
        refine wpQuiet_nil ?_
        clear hf0 hg0 hf1 hg1 hf2 hg2 hfl
        go_wp2_with fail
        refine (HDG.out z0 HB1.out).mono ?_
        rintro e w2 ⟨rfl, hb⟩
        have HF : Hid (Later z0 w2) := Lib.hid hb
        have hlx : w.heap.size < w2.heap.size := Nat.lt_of_lt_of_le (Array.getElem?_eq_some_iff.1 HX1.out).1 hb.size
        have hly : w.heap.size + 1 < w2.heap.size := Nat.lt_of_lt_of_le (Array.getElem?_eq_some_iff.1 HY1.out).1 hb.size
        have HX2 := Lib.hid ((hb.block _ (Array.getElem?_eq_some_iff.1 HX1.out).1).trans HX1.out); have HY2 := Lib.hid ((hb.block _ (Array.getElem?_eq_some_iff.1 HY1.out).1).trans HY1.out)
        have HB2 := Lib.hid (HB1.out.trans (hb.mono HB1.out.size))
        clear hb HX1 HY1 HB1
        go_wp2_with fail
        refine pieceEnd_normal ⟨HF.out, ?_⟩
        clear HF
        have hf2 : ∀ x, (fut Later w2 x).cell? ⟨w.heap.size, 2, none⟩ = some (.string p.s.prev) := fun x => (cell_of_row _ _ 2 _ _ _ (((fut_ok Later.refl w2 x).block _ hlx).trans HX2.out)).trans rfl
        have hg2 : ∀ x, (fut Later w2 x).cell? ⟨w.heap.size + 1, 2, none⟩ = some (.string q.s.prev) := fun x => (cell_of_row _ _ 2 _ _ _ (((fut_ok Later.refl w2 x).block _ hly).trans HY2.out)).trans rfl
        have hf3 : ∀ x, (fut Later w2 x).cell? ⟨w.heap.size, 3, none⟩ = some (.int .i64 p.s.time) := fun x => (cell_of_row _ _ 3 _ _ _ (((fut_ok Later.refl w2 x).block _ hlx).trans HX2.out)).trans rfl
        have hg3 : ∀ x, (fut Later w2 x).cell? ⟨w.heap.size + 1, 3, none⟩ = some (.int .i64 q.s.time) := fun x => (cell_of_row _ _ 3 _ _ _ (((fut_ok Later.refl w2 x).block _ hly).trans HY2.out)).trans rfl
        clear hlx hly
        refine wpGrow_nil ?_
        repeat (go_big_quiet_step (fail))
        refine wpQuiet_nil ?_
        go_wp2_with fail
        go_ret
        exact ⟨by rw [HV.out]; first | done | rfl, HB2.out⟩
    · have b3 : (q.s.number == p.s.number + 1) = false := by simpa using a3
      have HV : Hid (followsR p.s q.s = false) := Lib.hid (by rw [followsR, decide_eq_false a3, Bool.false_and, Bool.and_false])
      by_cases a2 : p.s.number < q.s.number
      · have b2 : decide (p.s.number < q.s.number) = true := by simpa using a2
        clear a1 a2 a3
        refine wp_region_grow (by kernel_rfl) Later Later.refl (fun _ _ _ => Later.trans) [25, 26, 27, 28, 29, 30, 31, 32, 33, 34] [([0, 1, 2, 3, 4, 5, 6, 7, 8, 9, 10, 11, 12, 13, 14, 15, 16, 17, 18, 19, 20, 21, 22, 23], 24)] (by kernel_rfl) (by kernel_rfl) (by kernel_rfl) ?_
        simp only [List.map_cons, List.map_nil, pick, List.getD_cons_zero, List.getD_cons_succ]
        have HX1 : Hid (((w.alloc (.cells p.arr 48)).alloc (.cells q.arr 48)).drew.heap[w.heap.size]? = some (.cells p.arr 48 (0, 0))) := Lib.hid HX.out
        have HY1 : Hid (((w.alloc (.cells p.arr 48)).alloc (.cells q.arr 48)).drew.heap[w.heap.size + 1]? = some (.cells q.arr 48 (0, 0))) := Lib.hid HY.out
        have HB1 : Hid (Below w.heap.size w ((w.alloc (.cells p.arr 48)).alloc (.cells q.arr 48)).drew) := Lib.hid HB.out.drew
        clear HX HY HB
        generalize ((w.alloc (.cells p.arr 48)).alloc (.cells q.arr 48)).drew = z0 at *
        have hlx : w.heap.size < z0.heap.size := (Array.getElem?_eq_some_iff.1 HX1.out).1
        have hly : w.heap.size + 1 < z0.heap.size := (Array.getElem?_eq_some_iff.1 HY1.out).1
        have hf0 : ∀ x, (fut Later z0 x).cell? ⟨w.heap.size, 0, none⟩ = some (.int .i64 p.s.author) := fun x => (cell_of_row _ _ 0 _ _ _ (((fut_ok Later.refl z0 x).block _ hlx).trans HX1.out)).trans rfl
        have hg0 : ∀ x, (fut Later z0 x).cell? ⟨w.heap.size + 1, 0, none⟩ = some (.int .i64 q.s.author) := fun x => (cell_of_row _ _ 0 _ _ _ (((fut_ok Later.refl z0 x).block _ hly).trans HY1.out)).trans rfl
        have hf1 : ∀ x, (fut Later z0 x).cell? ⟨w.heap.size, 1, none⟩ = some (.int .i64 p.s.number) := fun x => (cell_of_row _ _ 1 _ _ _ (((fut_ok Later.refl z0 x).block _ hlx).trans HX1.out)).trans rfl
        have hg1 : ∀ x, (fut Later z0 x).cell? ⟨w.heap.size + 1, 1, none⟩ = some (.int .i64 q.s.number) := fun x => (cell_of_row _ _ 1 _ _ _ (((fut_ok Later.refl z0 x).block _ hly).trans HY1.out)).trans rfl
        have hf2 : ∀ x, (fut Later z0 x).cell? ⟨w.heap.size, 2, none⟩ = some (.string p.s.prev) := fun x => (cell_of_row _ _ 2 _ _ _ (((fut_ok Later.refl z0 x).block _ hlx).trans HX1.out)).trans rfl
        have hg2 : ∀ x, (fut Later z0 x).cell? ⟨w.heap.size + 1, 2, none⟩ = some (.string q.s.prev) := fun x => (cell_of_row _ _ 2 _ _ _ (((fut_ok Later.refl z0 x).block _ hly).trans HY1.out)).trans rfl
        have hfl : ∀ x, (loadVar 48 ⟨w.heap.size, 0, none⟩).run Tryz.prog (fut Later z0 x) = .ok (.agg p.arr) (fut Later z0 x) := cells_futs (p := p) (off := 0) fun x j _ => box_futs (F := Later) Later.refl (fun _ h => h.block _ hlx) HX1.out x j
        clear hlx hly
        refine wpGrow_cons ?_
        repeat (first | (refine wpQuiet_load rfl 48 (.tmp 2) rfl ⟨w.heap.size, 0, none⟩ rfl (.agg p.arr) (fun w' h => by obtain ⟨x, rfl⟩ := h; exact hfl x) ?_; simp only [Act.put, List.setIfInBounds_toArray, List.set_cons_succ, List.set_cons_zero]) | go_big_quiet_step (fail))
        refine wpQuiet_nil ?_
        clear hf0 hg0 hf1 hg1 hf2 hg2 hfl
        go_wp2_with fail
        have HF : Hid (Later z0 z0) := Lib.hid (Later.refl _)
        clear HX1 HY1
        go_wp2_with fail
        refine pieceEnd_normal ⟨HF.out, ?_⟩
        refine wpGrow_nil ?_
        repeat (go_big_quiet_step (fail))
        refine wpQuiet_nil ?_
        go_wp2_with fail
        go_ret
        exact ⟨by rw [HV.out]; first | done | rfl, HB1.out⟩
      · have b2 : decide (p.s.number < q.s.number) = false := by simpa using a2
        clear a1 a2 a3
        refine wp_region_grow (by kernel_rfl) Later Later.refl (fun _ _ _ => Later.trans) [25, 26, 27, 28, 29, 30, 31, 32, 33, 34] [([0, 1, 2, 3, 4, 5, 6, 7, 8, 9, 10, 11, 12, 13, 14, 15, 16, 17, 18, 19, 20, 21, 22, 23], 24)] (by kernel_rfl) (by kernel_rfl) (by kernel_rfl) ?_
        simp only [List.map_cons, List.map_nil, pick, List.getD_cons_zero, List.getD_cons_succ]
        have HX1 : Hid (((w.alloc (.cells p.arr 48)).alloc (.cells q.arr 48)).drew.heap[w.heap.size]? = some (.cells p.arr 48 (0, 0))) := Lib.hid HX.out
        have HY1 : Hid (((w.alloc (.cells p.arr 48)).alloc (.cells q.arr 48)).drew.heap[w.heap.size + 1]? = some (.cells q.arr 48 (0, 0))) := Lib.hid HY.out
        have HB1 : Hid (Below w.heap.size w ((w.alloc (.cells p.arr 48)).alloc (.cells q.arr 48)).drew) := Lib.hid HB.out.drew
        clear HX HY HB
        generalize ((w.alloc (.cells p.arr 48)).alloc (.cells q.arr 48)).drew = z0 at *
        have hlx : w.heap.size < z0.heap.size := (Array.getElem?_eq_some_iff.1 HX1.out).1
        have hly : w.heap.size + 1 < z0.heap.size := (Array.getElem?_eq_some_iff.1 HY1.out).1
        have hf0 : ∀ x, (fut Later z0 x).cell? ⟨w.heap.size, 0, none⟩ = some (.int .i64 p.s.author) := fun x => (cell_of_row _ _ 0 _ _ _ (((fut_ok Later.refl z0 x).block _ hlx).trans HX1.out)).trans rfl
        have hg0 : ∀ x, (fut Later z0 x).cell? ⟨w.heap.size + 1, 0, none⟩ = some (.int .i64 q.s.author) := fun x => (cell_of_row _ _ 0 _ _ _ (((fut_ok Later.refl z0 x).block _ hly).trans HY1.out)).trans rfl
        have hf1 : ∀ x, (fut Later z0 x).cell? ⟨w.heap.size, 1, none⟩ = some (.int .i64 p.s.number) := fun x => (cell_of_row _ _ 1 _ _ _ (((fut_ok Later.refl z0 x).block _ hlx).trans HX1.out)).trans rfl
        have hg1 : ∀ x, (fut Later z0 x).cell? ⟨w.heap.size + 1, 1, none⟩ = some (.int .i64 q.s.number) := fun x => (cell_of_row _ _ 1 _ _ _ (((fut_ok Later.refl z0 x).block _ hly).trans HY1.out)).trans rfl
        have hf2 : ∀ x, (fut Later z0 x).cell? ⟨w.heap.size, 2, none⟩ = some (.string p.s.prev) := fun x => (cell_of_row _ _ 2 _ _ _ (((fut_ok Later.refl z0 x).block _ hlx).trans HX1.out)).trans rfl
        have hg2 : ∀ x, (fut Later z0 x).cell? ⟨w.heap.size + 1, 2, none⟩ = some (.string q.s.prev) := fun x => (cell_of_row _ _ 2 _ _ _ (((fut_ok Later.refl z0 x).block _ hly).trans HY1.out)).trans rfl
        have hfl : ∀ x, (loadVar 48 ⟨w.heap.size, 0, none⟩).run Tryz.prog (fut Later z0 x) = .ok (.agg p.arr) (fut Later z0 x) := cells_futs (p := p) (off := 0) fun x j _ => box_futs (F := Later) Later.refl (fun _ h => h.block _ hlx) HX1.out x j
        clear hlx hly
        refine wpGrow_cons ?_
        repeat (first | (refine wpQuiet_load rfl 48 (.tmp 2) rfl ⟨w.heap.size, 0, none⟩ rfl (.agg p.arr) (fun w' h => by obtain ⟨x, rfl⟩ := h; exact hfl x) ?_; simp only [Act.put, List.setIfInBounds_toArray, List.set_cons_succ, List.set_cons_zero]) | go_big_quiet_step (fail))
        refine wpQuiet_nil ?_
        clear hf0 hg0 hf1 hg1 hf2 hg2 hfl
        go_wp2_with fail
        have HF : Hid (Later z0 z0) := Lib.hid (Later.refl _)
        clear HX1 HY1
        go_wp2_with fail
        refine pieceEnd_normal ⟨HF.out, ?_⟩
        refine wpGrow_nil ?_
        repeat (go_big_quiet_step (fail))
        refine wpQuiet_nil ?_
        go_wp2_with fail
        go_ret
        exact ⟨by rw [HV.out]; first | done | rfl, HB1.out⟩
  · have b1 : (q.s.author == p.s.author) = false := by simpa using a1
    have HV : Hid (followsR p.s q.s = false) := Lib.hid (by rw [followsR, decide_eq_false a1, Bool.false_and])
    clear a1
    refine wp_region_grow (by kernel_rfl) Later Later.refl (fun _ _ _ => Later.trans) [25, 26, 27, 28, 29, 30, 31, 32, 33, 34] [([0, 1, 2, 3, 4, 5, 6, 7, 8, 9, 10, 11, 12, 13, 14, 15, 16, 17, 18, 19, 20, 21, 22, 23], 24)] (by kernel_rfl) (by kernel_rfl) (by kernel_rfl) ?_
    simp only [List.map_cons, List.map_nil, pick, List.getD_cons_zero, List.getD_cons_succ]
    have HX1 : Hid (((w.alloc (.cells p.arr 48)).alloc (.cells q.arr 48)).drew.heap[w.heap.size]? = some (.cells p.arr 48 (0, 0))) := Lib.hid HX.out
    have HY1 : Hid (((w.alloc (.cells p.arr 48)).alloc (.cells q.arr 48)).drew.heap[w.heap.size + 1]? = some (.cells q.arr 48 (0, 0))) := Lib.hid HY.out
    have HB1 : Hid (Below w.heap.size w ((w.alloc (.cells p.arr 48)).alloc (.cells q.arr 48)).drew) := Lib.hid HB.out.drew
    clear HX HY HB
    generalize ((w.alloc (.cells p.arr 48)).alloc (.cells q.arr 48)).drew = z0 at *
    have hlx : w.heap.size < z0.heap.size := (Array.getElem?_eq_some_iff.1 HX1.out).1
    have hly : w.heap.size + 1 < z0.heap.size := (Array.getElem?_eq_some_iff.1 HY1.out).1
    have hf0 : ∀ x, (fut Later z0 x).cell? ⟨w.heap.size, 0, none⟩ = some (.int .i64 p.s.author) := fun x => (cell_of_row _ _ 0 _ _ _ (((fut_ok Later.refl z0 x).block _ hlx).trans HX1.out)).trans rfl
    have hg0 : ∀ x, (fut Later z0 x).cell? ⟨w.heap.size + 1, 0, none⟩ = some (.int .i64 q.s.author) := fun x => (cell_of_row _ _ 0 _ _ _ (((fut_ok Later.refl z0 x).block _ hly).trans HY1.out)).trans rfl
    have hf1 : ∀ x, (fut Later z0 x).cell? ⟨w.heap.size, 1, none⟩ = some (.int .i64 p.s.number) := fun x => (cell_of_row _ _ 1 _ _ _ (((fut_ok Later.refl z0 x).block _ hlx).trans HX1.out)).trans rfl
    have hg1 : ∀ x, (fut Later z0 x).cell? ⟨w.heap.size + 1, 1, none⟩ = some (.int .i64 q.s.number) := fun x => (cell_of_row _ _ 1 _ _ _ (((fut_ok Later.refl z0 x).block _ hly).trans HY1.out)).trans rfl
    have hf2 : ∀ x, (fut Later z0 x).cell? ⟨w.heap.size, 2, none⟩ = some (.string p.s.prev) := fun x => (cell_of_row _ _ 2 _ _ _ (((fut_ok Later.refl z0 x).block _ hlx).trans HX1.out)).trans rfl
    have hg2 : ∀ x, (fut Later z0 x).cell? ⟨w.heap.size + 1, 2, none⟩ = some (.string q.s.prev) := fun x => (cell_of_row _ _ 2 _ _ _ (((fut_ok Later.refl z0 x).block _ hly).trans HY1.out)).trans rfl
    have hfl : ∀ x, (loadVar 48 ⟨w.heap.size, 0, none⟩).run Tryz.prog (fut Later z0 x) = .ok (.agg p.arr) (fut Later z0 x) := cells_futs (p := p) (off := 0) fun x j _ => box_futs (F := Later) Later.refl (fun _ h => h.block _ hlx) HX1.out x j
    clear hlx hly
    refine wpGrow_cons ?_
    repeat (first | (refine wpQuiet_load rfl 48 (.tmp 2) rfl ⟨w.heap.size, 0, none⟩ rfl (.agg p.arr) (fun w' h => by obtain ⟨x, rfl⟩ := h; exact hfl x) ?_; simp only [Act.put, List.setIfInBounds_toArray, List.set_cons_succ, List.set_cons_zero]) | go_big_quiet_step (fail))
    refine wpQuiet_nil ?_
    clear hf0 hg0 hf1 hg1 hf2 hg2 hfl
    go_wp2_with fail
    have HF : Hid (Later z0 z0) := Lib.hid (Later.refl _)
    clear HX1 HY1
    go_wp2_with fail
    refine pieceEnd_normal ⟨HF.out, ?_⟩
    refine wpGrow_nil ?_
    repeat (go_big_quiet_step (fail))
    refine wpQuiet_nil ?_
    go_wp2_with fail
    go_ret
    exact ⟨by rw [HV.out]; first | done | rfl, HB1.out⟩
end Go.Proofs.YtnmpbjgccbnomaaGreat
