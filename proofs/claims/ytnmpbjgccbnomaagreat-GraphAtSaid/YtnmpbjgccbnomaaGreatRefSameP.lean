import Derived.Test.YtnmpbjgccbnomaaGreatPackAC
/- The walk of the reference's Same. -/
namespace Go.Proofs.YtnmpbjgccbnomaaGreat
open Go.RowKit
set_option maxRecDepth 100000 in
set_option maxHeartbeats 4000000 in
theorem refSame_any (s : Stm) (Ax : Option Addr) (nx cx : Nat) (Bx : Option Addr) (mx kx : Nat) (t : Stm) (Ay : Option Addr) (ny cy : Nat) (By : Option Addr) (my ky : Nat) (w : World)
    (hl : IRow w Ax nx cx s.list) (hp : PRow w Bx mx kx s.pins) (hl2 : IRow w Ay ny cy t.list) (hp2 : PRow w By my ky t.pins) (hn : nx ≤ 1000000) (hm : mx ≤ 1000000) :
    Calls Tryz.prog 65 #[stmV s Ax nx cx Bx mx kx, stmV t Ay ny cy By my ky] w (SaysL (.bool (sameS s t)) w) := by
  obtain ⟨x0, x1, x2, x3, x4, x5, x6, x7, x8, x9, x10, x11, x12⟩ := s
  obtain ⟨y0, y1, y2, y3, y4, y5, y6, y7, y8, y9, y10, y11, y12⟩ := t
  have HS : Hid (sameS ⟨x0, x1, x2, x3, x4, x5, x6, x7, x8, x9, x10, x11, x12⟩ ⟨y0, y1, y2, y3, y4, y5, y6, y7, y8, y9, y10, y11, y12⟩ = ((x0 == y0) && (x1 == y1) && (x2.toList == y2.toList) && (x3 == y3) && (x4 == y4) && (x5 == y5) && (x6 == y6) && (x7 == y7) && sameIB x8 y8 && samePB x9 y9 && (x10.toList == y10.toList) && (decide (x11 = y11) && decide (x12 = y12)))) := Lib.hid rfl
  have HL := Lib.hid (fun w' (h : Below w.heap.size w w') => sameInts_any Ax nx cx x8 Ay ny cy y8 w' (hl.later h) (hl2.later h) hn)
  have HP := Lib.hid (fun w' (h : Below w.heap.size w w') => samePins_any Bx mx kx x9 By my ky y9 w' (hp.later h) (hp2.later h) hm)
  clear hl hp hl2 hp2
  generalize sameS _ _ = R at HS ⊢
  generalize sameIB x8 y8 = LI at HS HL
  generalize samePB x9 y9 = LP at HS HP
  unfold stmV
  have hb0 : Below w.heap.size w ((w.alloc (.cells #[.int .i64 x0, .int .i64 x1, .string x2, .int .i64 x3, .int .i64 x4, .int .i64 x5, .int .i64 x6, .int .i64 x7, .slice Ax nx cx, .slice Bx mx kx, .string x10, .int .i64 x11, .string x12] 48)).alloc (.cells #[.int .i64 y0, .int .i64 y1, .string y2, .int .i64 y3, .int .i64 y4, .int .i64 y5, .int .i64 y6, .int .i64 y7, .slice Ay ny cy, .slice By my ky, .string y10, .int .i64 y11, .string y12] 48)) := (one_new w _).alloc (by simp) _
  have hx0 : ((w.alloc (.cells #[.int .i64 x0, .int .i64 x1, .string x2, .int .i64 x3, .int .i64 x4, .int .i64 x5, .int .i64 x6, .int .i64 x7, .slice Ax nx cx, .slice Bx mx kx, .string x10, .int .i64 x11, .string x12] 48)).alloc (.cells #[.int .i64 y0, .int .i64 y1, .string y2, .int .i64 y3, .int .i64 y4, .int .i64 y5, .int .i64 y6, .int .i64 y7, .slice Ay ny cy, .slice By my ky, .string y10, .int .i64 y11, .string y12] 48)).heap[w.heap.size]? = _ := (Below.heap_alloc _ _ _ (by simp)).trans (heap_alloc_new w (.cells #[.int .i64 x0, .int .i64 x1, .string x2, .int .i64 x3, .int .i64 x4, .int .i64 x5, .int .i64 x6, .int .i64 x7, .slice Ax nx cx, .slice Bx mx kx, .string x10, .int .i64 x11, .string x12] 48))
  have hy0 : ((w.alloc (.cells #[.int .i64 x0, .int .i64 x1, .string x2, .int .i64 x3, .int .i64 x4, .int .i64 x5, .int .i64 x6, .int .i64 x7, .slice Ax nx cx, .slice Bx mx kx, .string x10, .int .i64 x11, .string x12] 48)).alloc (.cells #[.int .i64 y0, .int .i64 y1, .string y2, .int .i64 y3, .int .i64 y4, .int .i64 y5, .int .i64 y6, .int .i64 y7, .slice Ay ny cy, .slice By my ky, .string y10, .int .i64 y11, .string y12] 48)).heap[w.heap.size + 1]? = some (.cells #[.int .i64 y0, .int .i64 y1, .string y2, .int .i64 y3, .int .i64 y4, .int .i64 y5, .int .i64 y6, .int .i64 y7, .slice Ay ny cy, .slice By my ky, .string y10, .int .i64 y11, .string y12] 48 (0, 0)) := by
    have := heap_alloc_new (w.alloc (.cells #[.int .i64 x0, .int .i64 x1, .string x2, .int .i64 x3, .int .i64 x4, .int .i64 x5, .int .i64 x6, .int .i64 x7, .slice Ax nx cx, .slice Bx mx kx, .string x10, .int .i64 x11, .string x12] 48)) (.cells #[.int .i64 y0, .int .i64 y1, .string y2, .int .i64 y3, .int .i64 y4, .int .i64 y5, .int .i64 y6, .int .i64 y7, .slice Ay ny cy, .slice By my ky, .string y10, .int .i64 y11, .string y12] 48)
    rw [show (w.alloc (.cells #[.int .i64 x0, .int .i64 x1, .string x2, .int .i64 x3, .int .i64 x4, .int .i64 x5, .int .i64 x6, .int .i64 x7, .slice Ax nx cx, .slice Bx mx kx, .string x10, .int .i64 x11, .string x12] 48)).heap.size = w.heap.size + 1 by simp] at this
    exact this
  have hz0 : w.heap.size + 1 < ((w.alloc (.cells #[.int .i64 x0, .int .i64 x1, .string x2, .int .i64 x3, .int .i64 x4, .int .i64 x5, .int .i64 x6, .int .i64 x7, .slice Ax nx cx, .slice Bx mx kx, .string x10, .int .i64 x11, .string x12] 48)).alloc (.cells #[.int .i64 y0, .int .i64 y1, .string y2, .int .i64 y3, .int .i64 y4, .int .i64 y5, .int .i64 y6, .int .i64 y7, .slice Ay ny cy, .slice By my ky, .string y10, .int .i64 y11, .string y12] 48)).heap.size := by simp
  have HB0 := Lib.hid hb0; have HX0 := Lib.hid hx0; have HY0 := Lib.hid hy0; have HZ0 := Lib.hid hz0
  clear hb0 hx0 hy0 hz0
  go_enter Tryz.func65, Tryz.ntmps65
  cases g0 : (x0 == y0)
  · have HV : Hid (R = false) := by unfold Hid; rw [HS.out, g0]; simp
    go_wp2
    go_ret
    exact ⟨by rw [HV.out]; rfl, HB0.out⟩
  cases g1 : (x1 == y1)
  · have HV : Hid (R = false) := by unfold Hid; rw [HS.out, g0, g1]; simp
    go_wp2
    go_ret
    exact ⟨by rw [HV.out]; rfl, HB0.out⟩
  cases g2 : (x2.toList == y2.toList)
  · have HV : Hid (R = false) := by unfold Hid; rw [HS.out, g0, g1, g2]; simp
    go_wp2
    go_ret
    exact ⟨by rw [HV.out]; rfl, HB0.out⟩
  cases g3 : (x3 == y3)
  · have HV : Hid (R = false) := by unfold Hid; rw [HS.out, g0, g1, g2, g3]; simp
    go_wp2
    go_ret
    exact ⟨by rw [HV.out]; rfl, HB0.out⟩
  cases g4 : (x4 == y4)
  · have HV : Hid (R = false) := by unfold Hid; rw [HS.out, g0, g1, g2, g3, g4]; simp
    go_wp2
    go_ret
    exact ⟨by rw [HV.out]; rfl, HB0.out⟩
  cases g5 : (x5 == y5)
  · have HV : Hid (R = false) := by unfold Hid; rw [HS.out, g0, g1, g2, g3, g4, g5]; simp
    go_wp2
    go_ret
    exact ⟨by rw [HV.out]; rfl, HB0.out⟩
  cases g6 : (x6 == y6)
  · have HV : Hid (R = false) := by unfold Hid; rw [HS.out, g0, g1, g2, g3, g4, g5, g6]; simp
    go_wp2
    go_ret
    exact ⟨by rw [HV.out]; rfl, HB0.out⟩
  cases g7 : (x7 == y7)
  · have HV : Hid (R = false) := by unfold Hid; rw [HS.out, g0, g1, g2, g3, g4, g5, g6, g7]; simp
    go_wp2
    go_ret
    exact ⟨by rw [HV.out]; rfl, HB0.out⟩
  have HS2 : Hid (R = (LI && LP && (x10.toList == y10.toList) && (decide (x11 = y11) && decide (x12 = y12)))) := by unfold Hid; rw [HS.out, g0, g1, g2, g3, g4, g5, g6, g7]; simp
  clear HS
  go_wp2_with fail
  clear g0 g1 g2 g3 g4 g5 g6 g7
  refine (HL.out _ HB0.out).mono ?_
  generalize (w.alloc (.cells #[.int .i64 x0, .int .i64 x1, .string x2, .int .i64 x3, .int .i64 x4, .int .i64 x5, .int .i64 x6, .int .i64 x7, .slice Ax nx cx, .slice Bx mx kx, .string x10, .int .i64 x11, .string x12] 48)).alloc (.cells #[.int .i64 y0, .int .i64 y1, .string y2, .int .i64 y3, .int .i64 y4, .int .i64 y5, .int .i64 y6, .int .i64 y7, .slice Ay ny cy, .slice By my ky, .string y10, .int .i64 y11, .string y12] 48) = w0 at HB0 HX0 HY0 HZ0 ⊢
  rintro e w1 ⟨rfl, hb⟩
  have HB1 := Lib.hid (HB0.out.trans (hb.mono HB0.out.size)); have HX1 := Lib.hid ((hb.block _ (by have := HZ0.out; omega)).trans HX0.out); have HY1 := Lib.hid ((hb.block _ HZ0.out).trans HY0.out); have HZ1 : Hid (w.heap.size + 1 < w1.heap.size) := Lib.hid (Nat.lt_of_lt_of_le HZ0.out hb.size)
  clear hb HB0 HX0 HY0 HZ0 HL
  cases LI
  · have HV : Hid (R = false) := by unfold Hid; rw [HS2.out]; simp
    go_wp2
    go_ret
    exact ⟨by rw [HV.out]; rfl, HB1.out⟩
  obtain ⟨hx0, hx1, hx2, hx3, hx4, hx5, hx6, hx7, hx8, hx9, hx10, hx11, hx12⟩ := stm_cells (A := Ax) (n := nx) (c := cx) (B := Bx) (m := mx) (k := kx) (s := ⟨x0, x1, x2, x3, x4, x5, x6, x7, x8, x9, x10, x11, x12⟩) HX1.out
  obtain ⟨hy0, hy1, hy2, hy3, hy4, hy5, hy6, hy7, hy8, hy9, hy10, hy11, hy12⟩ := stm_cells (A := Ay) (n := ny) (c := cy) (B := By) (m := my) (k := ky) (s := ⟨y0, y1, y2, y3, y4, y5, y6, y7, y8, y9, y10, y11, y12⟩) HY1.out
  go_wp2_with fail
  clear hx0 hy0 hx1 hy1 hx2 hy2 hx3 hy3 hx4 hy4 hx5 hy5 hx6 hy6 hx7 hy7 hx8 hy8 hx9 hy9 hx10 hy10 hx11 hy11 hx12 hy12
  refine (HP.out _ HB1.out).mono ?_
  rintro e w2 ⟨rfl, hb⟩
  have HB2 := Lib.hid (HB1.out.trans (hb.mono HB1.out.size)); have HX2 := Lib.hid ((hb.block _ (by have := HZ1.out; omega)).trans HX1.out); have HY2 := Lib.hid ((hb.block _ HZ1.out).trans HY1.out)
  clear hb HB1 HX1 HY1 HZ1 HP
  cases LP
  · have HV : Hid (R = false) := by unfold Hid; rw [HS2.out]; simp
    go_wp2
    go_ret
    exact ⟨by rw [HV.out]; rfl, HB2.out⟩
  obtain ⟨hx0, hx1, hx2, hx3, hx4, hx5, hx6, hx7, hx8, hx9, hx10, hx11, hx12⟩ := stm_cells (A := Ax) (n := nx) (c := cx) (B := Bx) (m := mx) (k := kx) (s := ⟨x0, x1, x2, x3, x4, x5, x6, x7, x8, x9, x10, x11, x12⟩) HX2.out
  obtain ⟨hy0, hy1, hy2, hy3, hy4, hy5, hy6, hy7, hy8, hy9, hy10, hy11, hy12⟩ := stm_cells (A := Ay) (n := ny) (c := cy) (B := By) (m := my) (k := ky) (s := ⟨y0, y1, y2, y3, y4, y5, y6, y7, y8, y9, y10, y11, y12⟩) HY2.out
  cases g10 : (x10.toList == y10.toList)
  · have HV : Hid (R = false) := by unfold Hid; rw [HS2.out, g10]; simp
    go_wp2
    go_ret
    exact ⟨by rw [HV.out]; rfl, HB2.out⟩
  by_cases e1 : x11 = y11
  · by_cases e2 : x12.toList = y12.toList
    · have HV : Hid (R = true) := by unfold Hid; rw [HS2.out, g10]; simp [e1, (toList_iff _ _).1 e2]
      go_wp2
      go_ret
      exact ⟨by rw [HV.out]; rfl, HB2.out⟩
    · have e3 : ¬ x12 = y12 := fun h => e2 ((toList_iff _ _).2 h)
      have HV : Hid (R = false) := by unfold Hid; rw [HS2.out, g10]; simp [e3]
      clear e3
      go_wp2
      go_ret
      exact ⟨by rw [HV.out]; rfl, HB2.out⟩
  · have HV : Hid (R = false) := by unfold Hid; rw [HS2.out, g10]; simp [e1]
    go_wp2
    go_ret
    exact ⟨by rw [HV.out]; rfl, HB2.out⟩
end Go.Proofs.YtnmpbjgccbnomaaGreat
