import Derived.Test.YtkglgboncngpbaaGreatDoorPackAS
import Derived.Test.YtkglgboncngpbaaGreatDoorPackAE
import Derived.LoopN
import Derived.Test.YtkglgboncngpbaaGreatDoorPackAR
import Derived.Test.YtkglgboncngpbaaGreatDoorPackAL
import Derived.Great.BuildSlice
import Derived.Test.YtkglgboncngpbaaGreatDoorPackAA
import Derived.ProofKit
import Derived.OpenShut
import Derived.Carry
import Derived.Handed
import Derived.ChangeMaps5
/- The walk of made.StoreOf over two statements. -/
namespace Go.Proofs.YtkglgboncngpbaaGreatDoor
open Go.RowKit
set_option maxRecDepth 100000 in
set_option maxHeartbeats 4000000 in
theorem storeOf_two {au : Int} (a b : Stm) (ha : Fit au a) (hb : Fit au b) (hab : beforeB a b = true) (P : Nat) (w : World) (hP : w.heap[P]? = some (.cells #[.int .i64 a.author, .int .i64 a.number, .string a.prev, .int .i64 a.time, .int .i64 a.kind, .int .i64 a.a, .int .i64 a.b, .int .i64 a.c, .slice none 0 0, .slice none 0 0, .string a.body, .int .i64 a.key, .string a.dig, .int .i64 b.author, .int .i64 b.number, .string b.prev, .int .i64 b.time, .int .i64 b.kind, .int .i64 b.a, .int .i64 b.b, .int .i64 b.c, .slice none 0 0, .slice none 0 0, .string b.body, .int .i64 b.key, .string b.dig] 27 (0, 0))) :
    Calls Tryz.prog 27 #[.slice (some ⟨P, 0, none⟩) 2 2] w fun e w' => ∃ A2 c2, e = .returned (.agg #[.slice A2 2 c2]) ∧ SRow w' A2 2 c2 [a, b] ∧ Below w.heap.size w w' := by
  have HA1 : Hid (∀ y, Calls Tryz.prog 29 #[.agg #[.slice none 0 0], stmV a none 0 0 none 0 0] y fun e w' => ∃ A2 c2, e = .returned (.agg #[.slice A2 1 c2]) ∧ SRow w' A2 1 c2 [a] ∧ Below y.heap.size y w') := Lib.hid fun y =>
    adds_any none 0 0 [] a y (Row.nilRow _ _) (by omega) ha (fun _ h => by cases h) 0 (Nat.le_refl _) (fun i h => absurd h (Nat.not_lt_zero i)) (fun h => absurd h (Nat.lt_irrefl 0))
  have HA2 : Hid (∀ y A c, SRow y A 1 c [a] → Calls Tryz.prog 29 #[.agg #[.slice A 1 c], stmV b none 0 0 none 0 0] y fun e w' => ∃ A2 c2, e = .returned (.agg #[.slice A2 2 c2]) ∧ SRow w' A2 2 c2 [a, b] ∧ Below y.heap.size y w') := Lib.hid fun y A c h =>
    adds_any A 1 c [a] b y h (by omega) hb (fun s hs => by rw [List.mem_singleton.1 hs]; exact ⟨ha.bare.1, ha.bare.2.1⟩) 1 (Nat.le_refl _) (fun i h => (show i = 0 by omega) ▸ hab) (fun h => absurd h (Nat.lt_irrefl 1))
  unfold stmV at HA1 HA2
  have HPL : Hid (P < w.heap.size) := Lib.hid (Array.getElem?_eq_some_iff.1 hP).1
  have HB : Hid (Below w.heap.size w ((w.alloc (.cells #[.slice none 0 0] 40)).alloc (.cells #[.slice none 0 0] 40))) := Lib.hid ((one_new w _).trans ((one_new _ _).mono (by simp)))
  have HX : Hid (((w.alloc (.cells #[.slice none 0 0] 40)).alloc (.cells #[.slice none 0 0] 40)).heap[w.heap.size]? = some (.cells #[.slice none 0 0] 40 (0, 0))) := Lib.hid ((Below.heap_alloc _ _ _ (by simp)).trans (heap_alloc_new _ _))
  have HY : Hid (((w.alloc (.cells #[.slice none 0 0] 40)).alloc (.cells #[.slice none 0 0] 40)).heap[w.heap.size + 1]? = some (.cells #[.slice none 0 0] 40 (0, 0))) := Lib.hid (heap_alloc2_new _ _ _)
  have HPP : Hid (((w.alloc (.cells #[.slice none 0 0] 40)).alloc (.cells #[.slice none 0 0] 40)).heap[P]? = some (.cells #[.int .i64 a.author, .int .i64 a.number, .string a.prev, .int .i64 a.time, .int .i64 a.kind, .int .i64 a.a, .int .i64 a.b, .int .i64 a.c, .slice none 0 0, .slice none 0 0, .string a.body, .int .i64 a.key, .string a.dig, .int .i64 b.author, .int .i64 b.number, .string b.prev, .int .i64 b.time, .int .i64 b.kind, .int .i64 b.a, .int .i64 b.b, .int .i64 b.c, .slice none 0 0, .slice none 0 0, .string b.body, .int .i64 b.key, .string b.dig] 27 (0, 0))) := Lib.hid ((HB.out.block _ HPL.out).trans hP)
  clear hP ha hb hab
  go_enter Tryz.func27, Tryz.ntmps27
  go_wp2_with fail
  generalize ((w.alloc (.cells #[.slice none 0 0] 40)).alloc (.cells #[.slice none 0 0] 40)) = y0 at *
  refine wp_loop_rounds 3 ?_
  rw [rounds_succ]
  go_wp2_with fail
  refine wp_region_flow (by kernel_rfl) (But (w.heap.size + 1)) ?_
  replace HB := Lib.hid HB.out.drew; replace HX : Hid (y0.drew.heap[w.heap.size]? = _) := HX; replace HY : Hid (y0.drew.heap[w.heap.size + 1]? = _) := HY; replace HPP : Hid (y0.drew.heap[P]? = _) := HPP
  generalize y0.drew = z0 at *
  have hcp : ∀ x, (fut (But (w.heap.size + 1)) z0 x).heap[P]? = some (.cells #[.int .i64 a.author, .int .i64 a.number, .string a.prev, .int .i64 a.time, .int .i64 a.kind, .int .i64 a.a, .int .i64 a.b, .int .i64 a.c, .slice none 0 0, .slice none 0 0, .string a.body, .int .i64 a.key, .string a.dig, .int .i64 b.author, .int .i64 b.number, .string b.prev, .int .i64 b.time, .int .i64 b.kind, .int .i64 b.a, .int .i64 b.b, .int .i64 b.c, .slice none 0 0, .slice none 0 0, .string b.body, .int .i64 b.key, .string b.dig] 27 (0, 0)) := fun x => ((fut_ok (F := But (w.heap.size + 1)) (But.refl _) z0 x).block _ (Array.getElem?_eq_some_iff.1 HPP.out).1 (by have := HPL.out; omega)).trans HPP.out
  have hf0 : ∀ x, (fut (But (w.heap.size + 1)) z0 x).cell? ⟨P, 0, none⟩ = some (.int .i64 a.author) := fun x => (cell_of_row _ _ 0 _ _ _ (hcp x)).trans rfl
  have hf1 : ∀ x, (fut (But (w.heap.size + 1)) z0 x).cell? ⟨P, 1, none⟩ = some (.int .i64 a.number) := fun x => (cell_of_row _ _ 1 _ _ _ (hcp x)).trans rfl
  have hf2 : ∀ x, (fut (But (w.heap.size + 1)) z0 x).cell? ⟨P, 2, none⟩ = some (.string a.prev) := fun x => (cell_of_row _ _ 2 _ _ _ (hcp x)).trans rfl
  have hf3 : ∀ x, (fut (But (w.heap.size + 1)) z0 x).cell? ⟨P, 3, none⟩ = some (.int .i64 a.time) := fun x => (cell_of_row _ _ 3 _ _ _ (hcp x)).trans rfl
  have hf4 : ∀ x, (fut (But (w.heap.size + 1)) z0 x).cell? ⟨P, 4, none⟩ = some (.int .i64 a.kind) := fun x => (cell_of_row _ _ 4 _ _ _ (hcp x)).trans rfl
  have hf5 : ∀ x, (fut (But (w.heap.size + 1)) z0 x).cell? ⟨P, 5, none⟩ = some (.int .i64 a.a) := fun x => (cell_of_row _ _ 5 _ _ _ (hcp x)).trans rfl
  have hf6 : ∀ x, (fut (But (w.heap.size + 1)) z0 x).cell? ⟨P, 6, none⟩ = some (.int .i64 a.b) := fun x => (cell_of_row _ _ 6 _ _ _ (hcp x)).trans rfl
  have hf7 : ∀ x, (fut (But (w.heap.size + 1)) z0 x).cell? ⟨P, 7, none⟩ = some (.int .i64 a.c) := fun x => (cell_of_row _ _ 7 _ _ _ (hcp x)).trans rfl
  have hf8 : ∀ x, (fut (But (w.heap.size + 1)) z0 x).cell? ⟨P, 8, none⟩ = some (.slice none 0 0) := fun x => (cell_of_row _ _ 8 _ _ _ (hcp x)).trans rfl
  have hf9 : ∀ x, (fut (But (w.heap.size + 1)) z0 x).cell? ⟨P, 9, none⟩ = some (.slice none 0 0) := fun x => (cell_of_row _ _ 9 _ _ _ (hcp x)).trans rfl
  have hf10 : ∀ x, (fut (But (w.heap.size + 1)) z0 x).cell? ⟨P, 10, none⟩ = some (.string a.body) := fun x => (cell_of_row _ _ 10 _ _ _ (hcp x)).trans rfl
  have hf11 : ∀ x, (fut (But (w.heap.size + 1)) z0 x).cell? ⟨P, 11, none⟩ = some (.int .i64 a.key) := fun x => (cell_of_row _ _ 11 _ _ _ (hcp x)).trans rfl
  have hf12 : ∀ x, (fut (But (w.heap.size + 1)) z0 x).cell? ⟨P, 12, none⟩ = some (.string a.dig) := fun x => (cell_of_row _ _ 12 _ _ _ (hcp x)).trans rfl
  clear hcp
  refine flow_reads (F := But (w.heap.size + 1)) (fun _ => But.refl _ _) (by kernel_rfl) [1, 2, 3, 4] (fuel := 3) (by kernel_rfl) ?_
  simp only [List.map_cons, List.map_nil, pick, List.getD_cons_zero, List.getD_cons_succ]
  repeat (go_big_quiet_step (fail))
  refine wpQuiet_nil ?_
  clear hf0 hf1 hf2 hf3 hf4 hf5 hf6 hf7 hf8 hf9 hf10 hf11 hf12
  refine flow_one (F := But (w.heap.size + 1)) (fun _ _ _ h k => But.trans h k) (fun _ => But.refl _ _) 0 (by kernel_rfl) (by decide) ?_
  simp only [pick, List.getD_cons_zero]
  have hc := (cell_of_row _ _ 0 _ _ _ HY.out).trans rfl
  go_wp2_with fail
  clear hc
  refine pieceEnd_normal ⟨But.refl _ _, ?_⟩
  refine flow_one (F := But (w.heap.size + 1)) (fun _ _ _ h k => But.trans h k) (fun _ => But.refl _ _) 5 (by kernel_rfl) (by decide) ?_
  simp only [pick, List.getD_cons_zero, List.getD_cons_succ]
  go_wp2_with fail
  refine (HA1.out z0).mono ?_
  rintro e w1 ⟨A1, c1, rfl, hr, hb⟩
  have hf : But (w.heap.size + 1) _ _ := But.of hb
  replace HX := Lib.hid ((hb.block _ (Array.getElem?_eq_some_iff.1 HX.out).1).trans HX.out)
  replace HY := Lib.hid ((hb.block _ (Array.getElem?_eq_some_iff.1 HY.out).1).trans HY.out)
  replace HPP := Lib.hid ((hb.block _ (Array.getElem?_eq_some_iff.1 HPP.out).1).trans HPP.out)
  replace HB := Lib.hid (HB.out.trans (hb.mono HB.out.size))
  have HR := Lib.hid hr; clear hr hb
  go_wp2_with fail
  refine pieceEnd_normal ⟨hf, ?_⟩
  clear hf
  refine flow_one (F := But (w.heap.size + 1)) (fun _ _ _ h k => But.trans h k) (fun _ => But.refl _ _) 6 (by kernel_rfl) (by decide) ?_
  simp only [pick, List.getD_cons_zero, List.getD_cons_succ]
  go_wp2_with (refine wpList_store_row rfl 40 (.tmp 3) (.tmp 16) rfl (w.heap.size + 1) #[.slice A1 1 c1] rfl rfl 40 _ HY.out (by kernel_rfl) rfl (by simp [Value.oneCell']) ?_)
  refine pieceEnd_normal ⟨But.of_row _ _ _, ?_⟩
  replace HX := Lib.hid ((setRow_other w1 (w.heap.size + 1) w.heap.size #[.slice A1 1 c1] (by omega)).trans HX.out)
  replace HPP := Lib.hid ((setRow_other w1 (w.heap.size + 1) P #[.slice A1 1 c1] (by have := HPL.out; omega)).trans HPP.out)
  replace HR := Lib.hid (Row.keep HR.out fun ad hA h0 _ => setRow_other w1 (w.heap.size + 1) _ #[.slice A1 1 c1] (row_not HR.out HY.out ad hA h0))
  replace HB := Lib.hid (below_setRow HB.out (by omega : w.heap.size ≤ (w.heap.size + 1)) #[.slice A1 1 c1])
  replace HY := Lib.hid (setRow_heap w1 (w.heap.size + 1) _ #[.slice A1 1 c1] _ _ HY.out)
  generalize w1.setRow (w.heap.size + 1) #[.slice A1 1 c1] = y1 at *
  refine flow_done (by kernel_rfl) ?_
  go_wp2_with fail
  rw [rounds_succ]
  go_wp2_with fail
  refine wp_region_flow (by kernel_rfl) (But (w.heap.size + 1)) ?_
  replace HB := Lib.hid HB.out.drew; replace HX : Hid (y1.drew.heap[w.heap.size]? = _) := HX; replace HY : Hid (y1.drew.heap[w.heap.size + 1]? = _) := HY; replace HPP : Hid (y1.drew.heap[P]? = _) := HPP
  replace HR := Lib.hid (HR.out.later (Later.drew y1))
  generalize y1.drew = z1 at *
  have hcp : ∀ x, (fut (But (w.heap.size + 1)) z1 x).heap[P]? = some (.cells #[.int .i64 a.author, .int .i64 a.number, .string a.prev, .int .i64 a.time, .int .i64 a.kind, .int .i64 a.a, .int .i64 a.b, .int .i64 a.c, .slice none 0 0, .slice none 0 0, .string a.body, .int .i64 a.key, .string a.dig, .int .i64 b.author, .int .i64 b.number, .string b.prev, .int .i64 b.time, .int .i64 b.kind, .int .i64 b.a, .int .i64 b.b, .int .i64 b.c, .slice none 0 0, .slice none 0 0, .string b.body, .int .i64 b.key, .string b.dig] 27 (0, 0)) := fun x => ((fut_ok (F := But (w.heap.size + 1)) (But.refl _) z1 x).block _ (Array.getElem?_eq_some_iff.1 HPP.out).1 (by have := HPL.out; omega)).trans HPP.out
  have hf0 : ∀ x, (fut (But (w.heap.size + 1)) z1 x).cell? ⟨P, 13, none⟩ = some (.int .i64 b.author) := fun x => (cell_of_row _ _ 13 _ _ _ (hcp x)).trans rfl
  have hf1 : ∀ x, (fut (But (w.heap.size + 1)) z1 x).cell? ⟨P, 14, none⟩ = some (.int .i64 b.number) := fun x => (cell_of_row _ _ 14 _ _ _ (hcp x)).trans rfl
  have hf2 : ∀ x, (fut (But (w.heap.size + 1)) z1 x).cell? ⟨P, 15, none⟩ = some (.string b.prev) := fun x => (cell_of_row _ _ 15 _ _ _ (hcp x)).trans rfl
  have hf3 : ∀ x, (fut (But (w.heap.size + 1)) z1 x).cell? ⟨P, 16, none⟩ = some (.int .i64 b.time) := fun x => (cell_of_row _ _ 16 _ _ _ (hcp x)).trans rfl
  have hf4 : ∀ x, (fut (But (w.heap.size + 1)) z1 x).cell? ⟨P, 17, none⟩ = some (.int .i64 b.kind) := fun x => (cell_of_row _ _ 17 _ _ _ (hcp x)).trans rfl
  have hf5 : ∀ x, (fut (But (w.heap.size + 1)) z1 x).cell? ⟨P, 18, none⟩ = some (.int .i64 b.a) := fun x => (cell_of_row _ _ 18 _ _ _ (hcp x)).trans rfl
  have hf6 : ∀ x, (fut (But (w.heap.size + 1)) z1 x).cell? ⟨P, 19, none⟩ = some (.int .i64 b.b) := fun x => (cell_of_row _ _ 19 _ _ _ (hcp x)).trans rfl
  have hf7 : ∀ x, (fut (But (w.heap.size + 1)) z1 x).cell? ⟨P, 20, none⟩ = some (.int .i64 b.c) := fun x => (cell_of_row _ _ 20 _ _ _ (hcp x)).trans rfl
  have hf8 : ∀ x, (fut (But (w.heap.size + 1)) z1 x).cell? ⟨P, 21, none⟩ = some (.slice none 0 0) := fun x => (cell_of_row _ _ 21 _ _ _ (hcp x)).trans rfl
  have hf9 : ∀ x, (fut (But (w.heap.size + 1)) z1 x).cell? ⟨P, 22, none⟩ = some (.slice none 0 0) := fun x => (cell_of_row _ _ 22 _ _ _ (hcp x)).trans rfl
  have hf10 : ∀ x, (fut (But (w.heap.size + 1)) z1 x).cell? ⟨P, 23, none⟩ = some (.string b.body) := fun x => (cell_of_row _ _ 23 _ _ _ (hcp x)).trans rfl
  have hf11 : ∀ x, (fut (But (w.heap.size + 1)) z1 x).cell? ⟨P, 24, none⟩ = some (.int .i64 b.key) := fun x => (cell_of_row _ _ 24 _ _ _ (hcp x)).trans rfl
  have hf12 : ∀ x, (fut (But (w.heap.size + 1)) z1 x).cell? ⟨P, 25, none⟩ = some (.string b.dig) := fun x => (cell_of_row _ _ 25 _ _ _ (hcp x)).trans rfl
  clear hcp
  refine flow_reads (F := But (w.heap.size + 1)) (fun _ => But.refl _ _) (by kernel_rfl) [1, 2, 3, 4] (fuel := 3) (by kernel_rfl) ?_
  simp only [List.map_cons, List.map_nil, pick, List.getD_cons_zero, List.getD_cons_succ]
  repeat (go_big_quiet_step (fail))
  refine wpQuiet_nil ?_
  clear hf0 hf1 hf2 hf3 hf4 hf5 hf6 hf7 hf8 hf9 hf10 hf11 hf12
  refine flow_one (F := But (w.heap.size + 1)) (fun _ _ _ h k => But.trans h k) (fun _ => But.refl _ _) 0 (by kernel_rfl) (by decide) ?_
  simp only [pick, List.getD_cons_zero]
  have hc := (cell_of_row _ _ 0 _ _ _ HY.out).trans rfl
  go_wp2_with fail
  clear hc
  refine pieceEnd_normal ⟨But.refl _ _, ?_⟩
  refine flow_one (F := But (w.heap.size + 1)) (fun _ _ _ h k => But.trans h k) (fun _ => But.refl _ _) 5 (by kernel_rfl) (by decide) ?_
  simp only [pick, List.getD_cons_zero, List.getD_cons_succ]
  go_wp2_with fail
  refine (HA2.out z1 _ _ HR.out).mono ?_
  rintro e w2 ⟨A2, c2, rfl, hr, hb⟩
  have hf : But (w.heap.size + 1) _ _ := But.of hb
  replace HX := Lib.hid ((hb.block _ (Array.getElem?_eq_some_iff.1 HX.out).1).trans HX.out)
  replace HY := Lib.hid ((hb.block _ (Array.getElem?_eq_some_iff.1 HY.out).1).trans HY.out)
  replace HPP := Lib.hid ((hb.block _ (Array.getElem?_eq_some_iff.1 HPP.out).1).trans HPP.out)
  replace HB := Lib.hid (HB.out.trans (hb.mono HB.out.size))
  replace HR := Lib.hid hr; clear hr hb
  go_wp2_with fail
  refine pieceEnd_normal ⟨hf, ?_⟩
  clear hf
  refine flow_one (F := But (w.heap.size + 1)) (fun _ _ _ h k => But.trans h k) (fun _ => But.refl _ _) 6 (by kernel_rfl) (by decide) ?_
  simp only [pick, List.getD_cons_zero, List.getD_cons_succ]
  go_wp2_with (refine wpList_store_row rfl 40 (.tmp 3) (.tmp 16) rfl (w.heap.size + 1) #[.slice A2 2 c2] rfl rfl 40 _ HY.out (by kernel_rfl) rfl (by simp [Value.oneCell']) ?_)
  refine pieceEnd_normal ⟨But.of_row _ _ _, ?_⟩
  replace HX := Lib.hid ((setRow_other w2 (w.heap.size + 1) w.heap.size #[.slice A2 2 c2] (by omega)).trans HX.out)
  replace HPP := Lib.hid ((setRow_other w2 (w.heap.size + 1) P #[.slice A2 2 c2] (by have := HPL.out; omega)).trans HPP.out)
  replace HR := Lib.hid (Row.keep HR.out fun ad hA h0 _ => setRow_other w2 (w.heap.size + 1) _ #[.slice A2 2 c2] (row_not HR.out HY.out ad hA h0))
  replace HB := Lib.hid (below_setRow HB.out (by omega : w.heap.size ≤ (w.heap.size + 1)) #[.slice A2 2 c2])
  replace HY := Lib.hid (setRow_heap w2 (w.heap.size + 1) _ #[.slice A2 2 c2] _ _ HY.out)
  generalize w2.setRow (w.heap.size + 1) #[.slice A2 2 c2] = y2 at *
  refine flow_done (by kernel_rfl) ?_
  go_wp2_with fail
  rw [rounds_succ]
  have hc := (cell_of_row _ _ 0 _ _ _ HY.out).trans rfl
  go_wp2_with (refine wpList_store_row rfl 40 (.tmp 2) (.tmp 17) rfl w.heap.size #[.slice A2 2 c2] rfl rfl 40 _ HX.out (by kernel_rfl) rfl (by simp [Value.oneCell']) ?_)
  refine bodyPost_ret (v := .agg #[.slice A2 2 c2]) (results_cell_row rfl _ _ w.heap.size 40 #[.slice A2 2 c2] (0, 0) _ rfl (setRow_heap _ _ _ #[.slice A2 2 c2] _ _ HX.out) Tryz.underlying40 rfl (by kernel_rfl)) rfl ?_
  exact ⟨A2, c2, rfl, Row.keep HR.out fun ad hA h0 _ => setRow_other _ _ _ _ (row_not HR.out HX.out ad hA h0), below_setRow HB.out (Nat.le_refl _) _⟩
end Go.Proofs.YtkglgboncngpbaaGreatDoor
/- The sanity check of the layer fork: it answers yes. -/
namespace Go.Proofs.YtkglgboncngpbaaGreatDoor
open Go.RowKit
theorem forkC_V (s t : Stm) : .agg (forkC s t) = forkV s none 0 0 none 0 0 t none 0 0 none 0 0 := rfl
theorem faces_check : checkF faceA faceB = 0 := by
  rw [checkF_two faceA_fit.check faceB_fit.check faceA_fit.sealed faceB_fit.sealed]
  have h : twoB faceA faceB = true := by
    unfold twoB
    rw [faces_less.1]
    rfl
  rw [if_pos h]
theorem faces_before : beforeB faceA faceB = true := by
  unfold beforeB
  rw [if_pos (show faceA.author = faceB.author from rfl), if_pos (show faceA.number = faceB.number from rfl)]
  exact faces_less.1
set_option maxRecDepth 100000 in
set_option maxHeartbeats 4000000 in
theorem awake_any (w : World) (hR : Rounds w) : Calls Tryz.prog 8 #[] w (SaysL (.bool true) w) := by
  have HSA : Hid (∀ y, Calls Tryz.prog 9 #[.agg #[.int .i64 3, .int .i64 0, .string ⟨#[]⟩, .int .i64 0, .int .i64 10, .int .i64 0, .int .i64 0, .int .i64 0, .slice none 0 0, .slice none 0 0, .string ⟨#[]⟩, .int .i64 0, .string ⟨#[]⟩]] y (SaysL (stmV faceA none 0 0 none 0 0) y)) := Lib.hid fun y => sealBare_any (F.bare 3 0 ⟨#[]⟩ 0 10 0) y ⟨Nat.zero_le _, Nat.zero_le _, Nat.zero_le _, Nat.zero_le _, Nat.zero_le _, Nat.zero_le _⟩ ⟨rfl, rfl⟩
  have HSB : Hid (∀ y, Calls Tryz.prog 9 #[.agg #[.int .i64 3, .int .i64 0, .string ⟨#[]⟩, .int .i64 0, .int .i64 11, .int .i64 0, .int .i64 0, .int .i64 0, .slice none 0 0, .slice none 0 0, .string ⟨#[]⟩, .int .i64 0, .string ⟨#[]⟩]] y (SaysL (stmV faceB none 0 0 none 0 0) y)) := Lib.hid fun y => sealBare_any (F.bare 3 0 ⟨#[]⟩ 0 11 0) y ⟨Nat.zero_le _, Nat.zero_le _, Nat.zero_le _, Nat.zero_le _, Nat.zero_le _, Nat.zero_le _⟩ ⟨rfl, rfl⟩
  have HSO : Hid (∀ y P, y.heap[P]? = some (.cells #[.int .i64 faceA.author, .int .i64 faceA.number, .string faceA.prev, .int .i64 faceA.time, .int .i64 faceA.kind, .int .i64 faceA.a, .int .i64 faceA.b, .int .i64 faceA.c, .slice none 0 0, .slice none 0 0, .string faceA.body, .int .i64 faceA.key, .string faceA.dig, .int .i64 faceB.author, .int .i64 faceB.number, .string faceB.prev, .int .i64 faceB.time, .int .i64 faceB.kind, .int .i64 faceB.a, .int .i64 faceB.b, .int .i64 faceB.c, .slice none 0 0, .slice none 0 0, .string faceB.body, .int .i64 faceB.key, .string faceB.dig] 27 (0, 0)) → Calls Tryz.prog 27 #[.slice (some ⟨P, 0, none⟩) 2 2] y fun e w' => ∃ A2 c2, e = .returned (.agg #[.slice A2 2 c2]) ∧ SRow w' A2 2 c2 [faceA, faceB] ∧ Below y.heap.size y w') := Lib.hid fun y P h => storeOf_two faceA faceB faceA_fit faceB_fit faces_before P y h
  have HFD : Hid (∀ y A2 c2, Below w.heap.size w y → SRow y A2 2 c2 [faceA, faceB] → Calls Tryz.prog 16 #[.agg #[.slice A2 2 c2]] y fun e w' => ∃ A1 c1, e = .returned (.slice A1 1 c1) ∧ Row w' A1 1 c1 26 (forkC faceA faceB).toList ∧ Below y.heap.size y w') := Lib.hid fun y A2 c2 h hr => find_two A2 c2 y hr (hR.later h)
  have HGU : Hid (∀ y A2 c2, Below w.heap.size w y → SRow y A2 2 c2 [faceA, faceB] → Calls Tryz.prog 18 #[.agg #[.slice A2 2 c2]] y fun e w' => ∃ A1 c1, e = .returned (.slice A1 1 c1) ∧ IRow w' A1 1 c1 [3] ∧ Below y.heap.size y w') := Lib.hid fun y A2 c2 h hr => guilty_two A2 c2 y hr (hR.later h)
  have HF3 : Hid (∀ y A2 c2, Below w.heap.size w y → SRow y A2 2 c2 [faceA, faceB] → Calls Tryz.prog 20 #[.agg #[.slice A2 2 c2], .int .i64 3] y (SaysL (.int .i64 0) y)) := Lib.hid fun y A2 c2 h hr => from_two 3 A2 c2 y hr (hR.later h)
  have HF2 : Hid (∀ y A2 c2, Below w.heap.size w y → SRow y A2 2 c2 [faceA, faceB] → Calls Tryz.prog 20 #[.agg #[.slice A2 2 c2], .int .i64 2] y (SaysL (.int .i64 (-1)) y)) := Lib.hid fun y A2 c2 h hr => from_two 2 A2 c2 y hr (hR.later h)
  have HCK : Hid (∀ y, Below w.heap.size w y → Calls Tryz.prog 30 #[.agg (forkC faceA faceB)] y (SaysL (.int .i64 0) y)) := Lib.hid fun y h => by
    have h1 := fkCheck_any faceA none 0 0 none 0 0 faceB none 0 0 none 0 0 y (Row.nilRow _ _) (Row.nilRow _ _) (Row.nilRow _ _) (Row.nilRow _ _) faceA_fit.bare.2.2.1 faceB_fit.bare.2.2.1 (hR.later h)
    rw [faces_check] at h1
    exact h1
  have HS := Lib.hid (forkC_size faceA faceB)
  have HI : Hid ((Tryz.prog.info? 29).map (·.size) = some (forkC faceA faceB).size) := Lib.hid (by rw [HS.out]; kernel_rfl)
  generalize forkC faceA faceB = V at *
  clear hR
  unfold stmV at HSA HSB
  generalize hfa : faceA = a at *
  generalize hfb : faceB = b at *
  clear hfa hfb
  go_enter Tryz.func8, Tryz.ntmps8
  go_wp2_with fail
  refine (HSA.out w).mono ?_
  rintro e w1 ⟨rfl, hb⟩
  have HB := Lib.hid hb; clear hb
  go_wp2_with fail
  refine (HSB.out w1).mono ?_
  rintro e w2 ⟨rfl, hb⟩
  replace HB := Lib.hid (HB.out.trans (hb.mono HB.out.size)); clear hb
  have HX : Hid (((w2.alloc (.cells #[.int .i64 0, .int .i64 0, .string ⟨#[]⟩, .int .i64 0, .int .i64 0, .int .i64 0, .int .i64 0, .int .i64 0, .slice none 0 0, .slice none 0 0, .string ⟨#[]⟩, .int .i64 0, .string ⟨#[]⟩] 27)).alloc (.cells #[.int .i64 0, .int .i64 0, .string ⟨#[]⟩, .int .i64 0, .int .i64 0, .int .i64 0, .int .i64 0, .int .i64 0, .slice none 0 0, .slice none 0 0, .string ⟨#[]⟩, .int .i64 0, .string ⟨#[]⟩] 27)).heap[w2.heap.size]? = some (.cells #[.int .i64 0, .int .i64 0, .string ⟨#[]⟩, .int .i64 0, .int .i64 0, .int .i64 0, .int .i64 0, .int .i64 0, .slice none 0 0, .slice none 0 0, .string ⟨#[]⟩, .int .i64 0, .string ⟨#[]⟩] 27 (0, 0))) := Lib.hid ((Below.heap_alloc _ _ _ (by simp)).trans (heap_alloc_new _ _))
  have HY : Hid (((w2.alloc (.cells #[.int .i64 0, .int .i64 0, .string ⟨#[]⟩, .int .i64 0, .int .i64 0, .int .i64 0, .int .i64 0, .int .i64 0, .slice none 0 0, .slice none 0 0, .string ⟨#[]⟩, .int .i64 0, .string ⟨#[]⟩] 27)).alloc (.cells #[.int .i64 0, .int .i64 0, .string ⟨#[]⟩, .int .i64 0, .int .i64 0, .int .i64 0, .int .i64 0, .int .i64 0, .slice none 0 0, .slice none 0 0, .string ⟨#[]⟩, .int .i64 0, .string ⟨#[]⟩] 27)).heap[w2.heap.size + 1]? = some (.cells #[.int .i64 0, .int .i64 0, .string ⟨#[]⟩, .int .i64 0, .int .i64 0, .int .i64 0, .int .i64 0, .int .i64 0, .slice none 0 0, .slice none 0 0, .string ⟨#[]⟩, .int .i64 0, .string ⟨#[]⟩] 27 (0, 0))) := Lib.hid (heap_alloc2_new _ _ _)
  have HY1 : Hid ((((w2.alloc (.cells #[.int .i64 0, .int .i64 0, .string ⟨#[]⟩, .int .i64 0, .int .i64 0, .int .i64 0, .int .i64 0, .int .i64 0, .slice none 0 0, .slice none 0 0, .string ⟨#[]⟩, .int .i64 0, .string ⟨#[]⟩] 27)).alloc (.cells #[.int .i64 0, .int .i64 0, .string ⟨#[]⟩, .int .i64 0, .int .i64 0, .int .i64 0, .int .i64 0, .int .i64 0, .slice none 0 0, .slice none 0 0, .string ⟨#[]⟩, .int .i64 0, .string ⟨#[]⟩] 27)).setRow w2.heap.size #[.int .i64 a.author, .int .i64 a.number, .string a.prev, .int .i64 a.time, .int .i64 a.kind, .int .i64 a.a, .int .i64 a.b, .int .i64 a.c, .slice none 0 0, .slice none 0 0, .string a.body, .int .i64 a.key, .string a.dig]).heap[w2.heap.size + 1]? = some (.cells #[.int .i64 0, .int .i64 0, .string ⟨#[]⟩, .int .i64 0, .int .i64 0, .int .i64 0, .int .i64 0, .int .i64 0, .slice none 0 0, .slice none 0 0, .string ⟨#[]⟩, .int .i64 0, .string ⟨#[]⟩] 27 (0, 0))) := Lib.hid ((setRow_other _ _ _ _ (by omega)).trans HY.out)
  have HX2 : Hid (((((w2.alloc (.cells #[.int .i64 0, .int .i64 0, .string ⟨#[]⟩, .int .i64 0, .int .i64 0, .int .i64 0, .int .i64 0, .int .i64 0, .slice none 0 0, .slice none 0 0, .string ⟨#[]⟩, .int .i64 0, .string ⟨#[]⟩] 27)).alloc (.cells #[.int .i64 0, .int .i64 0, .string ⟨#[]⟩, .int .i64 0, .int .i64 0, .int .i64 0, .int .i64 0, .int .i64 0, .slice none 0 0, .slice none 0 0, .string ⟨#[]⟩, .int .i64 0, .string ⟨#[]⟩] 27)).setRow w2.heap.size #[.int .i64 a.author, .int .i64 a.number, .string a.prev, .int .i64 a.time, .int .i64 a.kind, .int .i64 a.a, .int .i64 a.b, .int .i64 a.c, .slice none 0 0, .slice none 0 0, .string a.body, .int .i64 a.key, .string a.dig]).setRow (w2.heap.size + 1) #[.int .i64 b.author, .int .i64 b.number, .string b.prev, .int .i64 b.time, .int .i64 b.kind, .int .i64 b.a, .int .i64 b.b, .int .i64 b.c, .slice none 0 0, .slice none 0 0, .string b.body, .int .i64 b.key, .string b.dig]).heap[w2.heap.size]? = some (.cells #[.int .i64 a.author, .int .i64 a.number, .string a.prev, .int .i64 a.time, .int .i64 a.kind, .int .i64 a.a, .int .i64 a.b, .int .i64 a.c, .slice none 0 0, .slice none 0 0, .string a.body, .int .i64 a.key, .string a.dig] 27 (0, 0))) := Lib.hid ((setRow_other _ _ _ _ (by omega)).trans (setRow_heap _ _ _ #[.int .i64 a.author, .int .i64 a.number, .string a.prev, .int .i64 a.time, .int .i64 a.kind, .int .i64 a.a, .int .i64 a.b, .int .i64 a.c, .slice none 0 0, .slice none 0 0, .string a.body, .int .i64 a.key, .string a.dig] _ _ HX.out))
  have HY2 : Hid (((((w2.alloc (.cells #[.int .i64 0, .int .i64 0, .string ⟨#[]⟩, .int .i64 0, .int .i64 0, .int .i64 0, .int .i64 0, .int .i64 0, .slice none 0 0, .slice none 0 0, .string ⟨#[]⟩, .int .i64 0, .string ⟨#[]⟩] 27)).alloc (.cells #[.int .i64 0, .int .i64 0, .string ⟨#[]⟩, .int .i64 0, .int .i64 0, .int .i64 0, .int .i64 0, .int .i64 0, .slice none 0 0, .slice none 0 0, .string ⟨#[]⟩, .int .i64 0, .string ⟨#[]⟩] 27)).setRow w2.heap.size #[.int .i64 a.author, .int .i64 a.number, .string a.prev, .int .i64 a.time, .int .i64 a.kind, .int .i64 a.a, .int .i64 a.b, .int .i64 a.c, .slice none 0 0, .slice none 0 0, .string a.body, .int .i64 a.key, .string a.dig]).setRow (w2.heap.size + 1) #[.int .i64 b.author, .int .i64 b.number, .string b.prev, .int .i64 b.time, .int .i64 b.kind, .int .i64 b.a, .int .i64 b.b, .int .i64 b.c, .slice none 0 0, .slice none 0 0, .string b.body, .int .i64 b.key, .string b.dig]).heap[w2.heap.size + 1]? = some (.cells #[.int .i64 b.author, .int .i64 b.number, .string b.prev, .int .i64 b.time, .int .i64 b.kind, .int .i64 b.a, .int .i64 b.b, .int .i64 b.c, .slice none 0 0, .slice none 0 0, .string b.body, .int .i64 b.key, .string b.dig] 27 (0, 0))) := Lib.hid (setRow_heap _ _ _ #[.int .i64 b.author, .int .i64 b.number, .string b.prev, .int .i64 b.time, .int .i64 b.kind, .int .i64 b.a, .int .i64 b.b, .int .i64 b.c, .slice none 0 0, .slice none 0 0, .string b.body, .int .i64 b.key, .string b.dig] _ _ HY1.out)
  replace HB : Hid (Below w.heap.size w ((((w2.alloc (.cells #[.int .i64 0, .int .i64 0, .string ⟨#[]⟩, .int .i64 0, .int .i64 0, .int .i64 0, .int .i64 0, .int .i64 0, .slice none 0 0, .slice none 0 0, .string ⟨#[]⟩, .int .i64 0, .string ⟨#[]⟩] 27)).alloc (.cells #[.int .i64 0, .int .i64 0, .string ⟨#[]⟩, .int .i64 0, .int .i64 0, .int .i64 0, .int .i64 0, .int .i64 0, .slice none 0 0, .slice none 0 0, .string ⟨#[]⟩, .int .i64 0, .string ⟨#[]⟩] 27)).setRow w2.heap.size #[.int .i64 a.author, .int .i64 a.number, .string a.prev, .int .i64 a.time, .int .i64 a.kind, .int .i64 a.a, .int .i64 a.b, .int .i64 a.c, .slice none 0 0, .slice none 0 0, .string a.body, .int .i64 a.key, .string a.dig]).setRow (w2.heap.size + 1) #[.int .i64 b.author, .int .i64 b.number, .string b.prev, .int .i64 b.time, .int .i64 b.kind, .int .i64 b.a, .int .i64 b.b, .int .i64 b.c, .slice none 0 0, .slice none 0 0, .string b.body, .int .i64 b.key, .string b.dig])) := Lib.hid (below_setRow (below_setRow (HB.out.trans (((one_new w2 _).trans ((one_new _ _).mono (by simp))).mono HB.out.size)) HB.out.size _) (Nat.le_succ_of_le HB.out.size) _)
  go_upto_region 2 with (first | (refine wpList_store_row rfl 27 (.tmp 1) (.tmp 7) rfl w2.heap.size #[.int .i64 a.author, .int .i64 a.number, .string a.prev, .int .i64 a.time, .int .i64 a.kind, .int .i64 a.a, .int .i64 a.b, .int .i64 a.c, .slice none 0 0, .slice none 0 0, .string a.body, .int .i64 a.key, .string a.dig] rfl rfl 27 _ HX.out (by kernel_rfl) rfl (by simp [Value.oneCell']) ?_) | (refine wpList_store_row rfl 27 (.tmp 2) (.tmp 9) rfl (w2.heap.size + 1) #[.int .i64 b.author, .int .i64 b.number, .string b.prev, .int .i64 b.time, .int .i64 b.kind, .int .i64 b.a, .int .i64 b.b, .int .i64 b.c, .slice none 0 0, .slice none 0 0, .string b.body, .int .i64 b.key, .string b.dig] rfl rfl 27 _ HY1.out (by kernel_rfl) rfl (by simp [Value.oneCell']) ?_))
  clear HX HY HY1
  generalize ((((w2.alloc (.cells #[.int .i64 0, .int .i64 0, .string ⟨#[]⟩, .int .i64 0, .int .i64 0, .int .i64 0, .int .i64 0, .int .i64 0, .slice none 0 0, .slice none 0 0, .string ⟨#[]⟩, .int .i64 0, .string ⟨#[]⟩] 27)).alloc (.cells #[.int .i64 0, .int .i64 0, .string ⟨#[]⟩, .int .i64 0, .int .i64 0, .int .i64 0, .int .i64 0, .int .i64 0, .slice none 0 0, .slice none 0 0, .string ⟨#[]⟩, .int .i64 0, .string ⟨#[]⟩] 27)).setRow w2.heap.size #[.int .i64 a.author, .int .i64 a.number, .string a.prev, .int .i64 a.time, .int .i64 a.kind, .int .i64 a.a, .int .i64 a.b, .int .i64 a.c, .slice none 0 0, .slice none 0 0, .string a.body, .int .i64 a.key, .string a.dig]).setRow (w2.heap.size + 1) #[.int .i64 b.author, .int .i64 b.number, .string b.prev, .int .i64 b.time, .int .i64 b.kind, .int .i64 b.a, .int .i64 b.b, .int .i64 b.c, .slice none 0 0, .slice none 0 0, .string b.body, .int .i64 b.key, .string b.dig]) = y1 at *
  have HP : Hid ((y1.alloc (.cells #[.int .i64 a.author, .int .i64 a.number, .string a.prev, .int .i64 a.time, .int .i64 a.kind, .int .i64 a.a, .int .i64 a.b, .int .i64 a.c, .slice none 0 0, .slice none 0 0, .string a.body, .int .i64 a.key, .string a.dig, .int .i64 b.author, .int .i64 b.number, .string b.prev, .int .i64 b.time, .int .i64 b.kind, .int .i64 b.a, .int .i64 b.b, .int .i64 b.c, .slice none 0 0, .slice none 0 0, .string b.body, .int .i64 b.key, .string b.dig] 27)).heap[y1.heap.size]? = some (.cells #[.int .i64 a.author, .int .i64 a.number, .string a.prev, .int .i64 a.time, .int .i64 a.kind, .int .i64 a.a, .int .i64 a.b, .int .i64 a.c, .slice none 0 0, .slice none 0 0, .string a.body, .int .i64 a.key, .string a.dig, .int .i64 b.author, .int .i64 b.number, .string b.prev, .int .i64 b.time, .int .i64 b.kind, .int .i64 b.a, .int .i64 b.b, .int .i64 b.c, .slice none 0 0, .slice none 0 0, .string b.body, .int .i64 b.key, .string b.dig] 27 (0, 0))) := Lib.hid (heap_alloc_new _ _)
  go_wp2_with (first | (refine wpList_load_row rfl 27 (.tmp 1) rfl w2.heap.size rfl 27 #[.int .i64 a.author, .int .i64 a.number, .string a.prev, .int .i64 a.time, .int .i64 a.kind, .int .i64 a.a, .int .i64 a.b, .int .i64 a.c, .slice none 0 0, .slice none 0 0, .string a.body, .int .i64 a.key, .string a.dig] (0, 0) _ HX2.out Tryz.underlying27 rfl (by kernel_rfl) ?_) | (refine wpList_load_row rfl 27 (.tmp 2) rfl (w2.heap.size + 1) rfl 27 #[.int .i64 b.author, .int .i64 b.number, .string b.prev, .int .i64 b.time, .int .i64 b.kind, .int .i64 b.a, .int .i64 b.b, .int .i64 b.c, .slice none 0 0, .slice none 0 0, .string b.body, .int .i64 b.key, .string b.dig] (0, 0) _ HY2.out Tryz.underlying27 rfl (by kernel_rfl) ?_))
  refine (HSO.out _ _ HP.out).mono ?_
  replace HB : Hid (Below w.heap.size w (y1.alloc (.cells #[.int .i64 a.author, .int .i64 a.number, .string a.prev, .int .i64 a.time, .int .i64 a.kind, .int .i64 a.a, .int .i64 a.b, .int .i64 a.c, .slice none 0 0, .slice none 0 0, .string a.body, .int .i64 a.key, .string a.dig, .int .i64 b.author, .int .i64 b.number, .string b.prev, .int .i64 b.time, .int .i64 b.kind, .int .i64 b.a, .int .i64 b.b, .int .i64 b.c, .slice none 0 0, .slice none 0 0, .string b.body, .int .i64 b.key, .string b.dig] 27))) := Lib.hid (HB.out.trans ((one_new y1 _).mono HB.out.size))
  generalize y1.alloc (.cells #[.int .i64 a.author, .int .i64 a.number, .string a.prev, .int .i64 a.time, .int .i64 a.kind, .int .i64 a.a, .int .i64 a.b, .int .i64 a.c, .slice none 0 0, .slice none 0 0, .string a.body, .int .i64 a.key, .string a.dig, .int .i64 b.author, .int .i64 b.number, .string b.prev, .int .i64 b.time, .int .i64 b.kind, .int .i64 b.a, .int .i64 b.b, .int .i64 b.c, .slice none 0 0, .slice none 0 0, .string b.body, .int .i64 b.key, .string b.dig] 27) = y2 at *
  rintro e w3 ⟨A2, c2, rfl, hrow, hb⟩
  replace HB := Lib.hid (HB.out.trans (hb.mono HB.out.size)); have HR := Lib.hid hrow; clear hb hrow HP HX2 HY2
  have hn := one_new w3 (.cells #[.slice A2 2 c2] 40)
  have HT : Hid ((w3.alloc (.cells #[.slice A2 2 c2] 40)).heap[w3.heap.size]? = some (.cells #[.slice A2 2 c2] 40 (0, 0))) := Lib.hid (heap_alloc_new _ _)
  replace HB := Lib.hid (HB.out.trans (hn.mono HB.out.size)); replace HR := Lib.hid (HR.out.later hn); clear hn
  go_upto_region 3 with (refine wpList_store_new rfl 40 (.tmp 3) (.tmp 13) rfl 40 _ #[.slice A2 2 c2] rfl rfl (by kernel_rfl) rfl (by simp [Value.oneCell']) ?_)
  generalize w3.alloc (.cells #[.slice A2 2 c2] 40) = y3 at *
  go_wp2_with (refine wpList_load_row rfl 40 (.tmp 3) rfl w3.heap.size rfl 40 #[.slice A2 2 c2] (0, 0) _ HT.out Tryz.underlying40 rfl (by kernel_rfl) ?_)
  refine (HFD.out _ _ _ HB.out HR.out).mono ?_
  rintro e w4 ⟨A3, c3, rfl, hrow, hb⟩
  replace HT := Lib.hid ((hb.block _ (Array.getElem?_eq_some_iff.1 HT.out).1).trans HT.out); replace HB := Lib.hid (HB.out.trans (hb.mono HB.out.size)); replace HR := Lib.hid (HR.out.later hb)
  have HFR := Lib.hid hrow; clear hb hrow
  go_wp2_with (refine wpList_load_row rfl 40 (.tmp 3) rfl w3.heap.size rfl 40 #[.slice A2 2 c2] (0, 0) _ HT.out Tryz.underlying40 rfl (by kernel_rfl) ?_)
  refine (HGU.out _ _ _ HB.out HR.out).mono ?_
  rintro e w5 ⟨A4, c4, rfl, hrow, hb⟩
  replace HT := Lib.hid ((hb.block _ (Array.getElem?_eq_some_iff.1 HT.out).1).trans HT.out); replace HB := Lib.hid (HB.out.trans (hb.mono HB.out.size)); replace HR := Lib.hid (HR.out.later hb)
  replace HFR := Lib.hid (HFR.out.later hb)
  have HGR := Lib.hid hrow; clear hb hrow
  obtain ⟨b3, off3, hA3, -⟩ := Row.form HFR.out (by omega)
  subst hA3
  have HC := Lib.hid (row_cells HFR.out HS.out rfl)
  obtain ⟨b4, off4, hA4, -⟩ := Row.form HGR.out (by omega)
  subst hA4
  go_wp2_with (refine wpList_load_cellsG rfl 29 (.tmp 23) rfl b3 off3 rfl V _ Tryz.underlying29 rfl HI.out HC.out ?_)
  refine (HCK.out _ HB.out).mono ?_
  rintro e w6 ⟨rfl, hb⟩
  replace HT := Lib.hid ((hb.block _ (Array.getElem?_eq_some_iff.1 HT.out).1).trans HT.out); replace HB := Lib.hid (HB.out.trans (hb.mono HB.out.size)); replace HR := Lib.hid (HR.out.later hb)
  replace HGR := Lib.hid (HGR.out.later hb)
  clear hb HC HFR
  have hcg : w6.cell? ⟨b4, off4, none⟩ = some (.int .i64 3) := Row.cell HGR.out 0 (by omega)
  go_wp2_with (refine wpList_load_rowG rfl 40 (.tmp 3) rfl w3.heap.size rfl 40 #[.slice A2 2 c2] (0, 0) _ HT.out Tryz.underlying40 rfl (by kernel_rfl) ?_)
  clear hcg
  refine (HF3.out _ _ _ HB.out HR.out).mono ?_
  rintro e w7 ⟨rfl, hb⟩
  replace HT := Lib.hid ((hb.block _ (Array.getElem?_eq_some_iff.1 HT.out).1).trans HT.out); replace HB := Lib.hid (HB.out.trans (hb.mono HB.out.size)); replace HR := Lib.hid (HR.out.later hb)
  clear hb
  go_wp2_with (refine wpList_load_rowG rfl 40 (.tmp 3) rfl w3.heap.size rfl 40 #[.slice A2 2 c2] (0, 0) _ HT.out Tryz.underlying40 rfl (by kernel_rfl) ?_)
  refine (HF2.out _ _ _ HB.out HR.out).mono ?_
  rintro e w8 ⟨rfl, hb⟩
  replace HB := Lib.hid (HB.out.trans (hb.mono HB.out.size)); clear hb
  go_wp2_with fail
  go_ret
  exact ⟨rfl, HB.out⟩
end Go.Proofs.YtkglgboncngpbaaGreatDoor
/- The walk of trustflowlaw06.light. -/
namespace Go.Proofs.YtkglgboncngpbaaGreatDoor
open Go.RowKit
/-- What light asks of a statement. -/
def lightF (s : Stm) : Bool := decide (s.list.length ≤ 70) && (decide (s.pins.length ≤ 70) && (decide (s.body.size ≤ 300) && decide (s.prev.size ≤ 100)))
theorem lightF_small {s : Stm} (h : lightF s = true) (hp : (pinsBs s.pins).length ≤ 24 * s.pins.length + 1100000) (hd : s.dig.size ≤ 1200000) : Small s := by
  unfold lightF at h
  simp only [Bool.and_eq_true, decide_eq_true_eq] at h
  obtain ⟨h1, h2, h3, h4⟩ := h
  exact ⟨by omega, by omega, by omega, by omega, by omega, hd⟩
theorem seal_small6 {s : Stm} (h : Small s) : Small (sealOf s) := ⟨h.prev, h.list, h.pins, h.all, h.body, by show (digS s).size ≤ _; rw [digS_size]; decide⟩
set_option maxRecDepth 100000 in
set_option maxHeartbeats 4000000 in
theorem light6_any (s : Stm) (A : Option Addr) (n c : Nat) (B : Option Addr) (m k : Nat) (w : World) (hl : s.list.length = n) (hp : s.pins.length = m) :
    Calls Tryz.prog 7 #[stmV s A n c B m k] w (SaysL (.bool (lightF s)) w) := by
  have HLF : Hid (lightF s = (decide (n ≤ 70) && (decide (m ≤ 70) && (decide (s.body.size ≤ 300) && decide (s.prev.size ≤ 100))))) := Lib.hid (by unfold lightF; rw [hl, hp])
  generalize lightF s = lf at HLF ⊢
  clear hl hp
  obtain ⟨x0, x1, x2, x3, x4, x5, x6, x7, x8, x9, x10, x11, x12⟩ := s
  unfold stmV
  simp only at HLF ⊢
  have HX := Lib.hid (heap_alloc_new w (.cells #[.int .i64 x0, .int .i64 x1, .string x2, .int .i64 x3, .int .i64 x4, .int .i64 x5, .int .i64 x6, .int .i64 x7, .slice A n c, .slice B m k, .string x10, .int .i64 x11, .string x12] 27))
  have HB := Lib.hid (one_new w (.cells #[.int .i64 x0, .int .i64 x1, .string x2, .int .i64 x3, .int .i64 x4, .int .i64 x5, .int .i64 x6, .int .i64 x7, .slice A n c, .slice B m k, .string x10, .int .i64 x11, .string x12] 27))
  go_enter Tryz.func7, Tryz.ntmps7
  obtain ⟨hc0, hc1, hc2, hc3, hc4, hc5, hc6, hc7, hc8, hc9, hc10, hc11, hc12⟩ := stm_cells (s := ⟨x0, x1, x2, x3, x4, x5, x6, x7, x8, x9, x10, x11, x12⟩) HX.out
  by_cases h1 : n ≤ 70
  · have g1 : (n : Int) ≤ 70 := by omega
    by_cases h2 : m ≤ 70
    · have g2 : (m : Int) ≤ 70 := by omega
      by_cases h3 : x10.size ≤ 300
      · have g3 : (x10.size : Int) ≤ 300 := by omega
        by_cases h4 : x2.size ≤ 100
        · have g4 : (x2.size : Int) ≤ 100 := by omega
          have hf : lf = true := by rw [HLF.out]; simp [h1, h2, h3, h4]
          go_wp2_with fail
          go_ret
          exact ⟨rfl, HB.out⟩
        · have g4 : ¬ (x2.size : Int) ≤ 100 := by omega
          have hf : lf = false := by rw [HLF.out]; simp [h4]
          go_wp2_with fail
          go_ret
          exact ⟨rfl, HB.out⟩
      · have g3 : ¬ (x10.size : Int) ≤ 300 := by omega
        have hf : lf = false := by rw [HLF.out]; simp [h3]
        go_wp2_with fail
        go_ret
        exact ⟨rfl, HB.out⟩
    · have g2 : ¬ (m : Int) ≤ 70 := by omega
      have hf : lf = false := by rw [HLF.out]; simp [h2]
      go_wp2_with fail
      go_ret
      exact ⟨rfl, HB.out⟩
  · have g1 : ¬ (n : Int) ≤ 70 := by omega
    have hf : lf = false := by rw [HLF.out]; simp [h1]
    go_wp2_with fail
    go_ret
    exact ⟨rfl, HB.out⟩

end Go.Proofs.YtkglgboncngpbaaGreatDoor
/- The walk of the law ForkRaw. -/
namespace Go.Proofs.YtkglgboncngpbaaGreatDoor
open Go.RowKit
theorem part_futs {F : World → World → Prop} (hr : ∀ w, F w w) {W : World} {g off : Nat} {VA P : Array Value} (hF : ∀ w', F W w' → w'.heap[g]? = W.heap[g]?) {T : TypeId} {fr : Nat × Nat} (h : W.heap[g]? = some (.cells VA T fr)) (hi : (Tryz.prog.info? 27).map (·.size) = some P.size) (hp : ∀ j, j < P.size → VA[off + j]? = P[j]?) (x : World) :
    (loadVar 27 ⟨g, off, none⟩).run Tryz.prog (fut F W x) = .ok (.agg P) (fut F W x) :=
  run_loadVar_part _ _ _ T 27 VA P fr _ ((hF _ (fut_ok hr W x)).trans h) Tryz.underlying27 rfl hi hp
set_option maxRecDepth 100000 in
set_option maxHeartbeats 4000000 in
theorem fkRaw_any (s : Stm) (A : Option Addr) (n c : Nat) (B : Option Addr) (m k : Nat) (t : Stm) (A2 : Option Addr) (n2 c2 : Nat) (B2 : Option Addr) (m2 k2 : Nat) (A3 : Option Addr) (n3 c3 : Nat) (us : List UInt8) (w : World) (hl : IRow w A n c s.list) (hp : PRow w B m k s.pins) (hl2 : IRow w A2 n2 c2 t.list) (hp2 : PRow w B2 m2 k2 t.pins) (hb3 : BRow w A3 n3 c3 us)
    (hz : (pinsBs s.pins).length ≤ 24 * s.pins.length + 1100000) (hz2 : (pinsBs t.pins).length ≤ 24 * t.pins.length + 1100000) (hd : s.dig.size ≤ 1200000) (hd2 : t.dig.size ≤ 1200000) (hr : Rounds w) :
    Calls Tryz.prog 3 #[forkV s A n c B m k t A2 n2 c2 B2 m2 k2, .slice A3 n3 c3] w (SaysL (.bool true) w) := by
  have HL1 : Hid (∀ w', Calls Tryz.prog 7 #[stmV s A n c B m k] w' (SaysL (.bool (lightF s)) w')) := Lib.hid fun w' => light6_any s A n c B m k w' hl.len hp.len
  have HL2 : Hid (∀ w', Calls Tryz.prog 7 #[stmV t A2 n2 c2 B2 m2 k2] w' (SaysL (.bool (lightF t)) w')) := Lib.hid fun w' => light6_any t A2 n2 c2 B2 m2 k2 w' hl2.len hp2.len
  have HAW : Hid (∀ w', Below w.heap.size w w' → Calls Tryz.prog 8 #[] w' (SaysL (.bool true) w')) := Lib.hid fun w' h => awake_any w' (hr.later h)
  have HAG : Hid (lightF s = true → lightF t = true → n3 ≤ 500 → ∀ w', Below w.heap.size w w' → Calls Tryz.prog 10 #[forkV s A n c B m k t A2 n2 c2 B2 m2 k2, .slice A3 n3 c3] w' (SaysL (.bool true) w')) := Lib.hid fun g1 g2 g3 w' h =>
    fkAgree_any s A n c B m k t A2 n2 c2 B2 m2 k2 A3 n3 c3 us w' (hl.later h) (hp.later h) (hl2.later h) (hp2.later h) (lightF_small g1 hz hd) (lightF_small g2 hz2 hd2) (hb3.later h) (by omega) (hr.later h)
  obtain ⟨SS, hSS⟩ : ∃ x, x = sealOf s := ⟨_, rfl⟩
  obtain ⟨ST, hST⟩ : ∃ x, x = sealOf t := ⟨_, rfl⟩
  have HSE1 : Hid (lightF s = true → ∀ w', Below w.heap.size w w' → Calls Tryz.prog 9 #[stmV s A n c B m k] w' (GivesS w' SS)) := Lib.hid fun g w' h => by rw [hSS]; exact refSeal_any s A n c B m k w' (hl.later h) (hp.later h) (lightF_small g hz hd)
  have HSE2 : Hid (lightF t = true → ∀ w', Below w.heap.size w w' → Calls Tryz.prog 9 #[stmV t A2 n2 c2 B2 m2 k2] w' (GivesS w' ST)) := Lib.hid fun g w' h => by rw [hST]; exact refSeal_any t A2 n2 c2 B2 m2 k2 w' (hl2.later h) (hp2.later h) (lightF_small g hz2 hd2)
  have HAG2 : Hid (lightF s = true → lightF t = true → n3 ≤ 500 → ∀ w', Below w.heap.size w w' → ∀ A n c B m k A2 n2 c2 B2 m2 k2, IRow w' A n c SS.list → PRow w' B m k SS.pins → IRow w' A2 n2 c2 ST.list → PRow w' B2 m2 k2 ST.pins →
      Calls Tryz.prog 10 #[forkV SS A n c B m k ST A2 n2 c2 B2 m2 k2, .slice A3 n3 c3] w' (SaysL (.bool true) w')) := Lib.hid fun g1 g2 g3 w' h A n c B m k A2 n2 c2 B2 m2 k2 h1 h2 h3 h4 =>
    fkAgree_any SS A n c B m k ST A2 n2 c2 B2 m2 k2 A3 n3 c3 us w' h1 h2 h3 h4 (by rw [hSS]; exact seal_small6 (lightF_small g1 hz hd)) (by rw [hST]; exact seal_small6 (lightF_small g2 hz2 hd2)) (hb3.later h) (by omega) (hr.later h)
  obtain ⟨SA, TA, VA, eS, eT, eV, h26⟩ := two26 s A n c B m k t A2 n2 c2 B2 m2 k2
  rw [eS] at HL1 HSE1
  rw [eT] at HL2 HSE2
  rw [eV] at HAG ⊢
  have H26 := Lib.hid h26
  clear eS eT eV h26 hSS hST hl hp hl2 hp2 hb3 hz hz2 hd hd2 hr
  generalize lightF s = ls at HL1 HAG HSE1 HAG2
  generalize lightF t = lt at HL2 HAG HSE2 HAG2
  have HX : Hid ((w.alloc (.cells VA 29)).heap[w.heap.size]? = some (.cells VA 29 (0, 0))) := Lib.hid (heap_alloc_new _ _)
  have HB : Hid (Below w.heap.size w (w.alloc (.cells VA 29))) := Lib.hid (one_new w _)
  have HZ : Hid (w.heap.size < (w.alloc (.cells VA 29)).heap.size) := Lib.hid (by simp)
  go_enter Tryz.func3, Tryz.ntmps3
  go_wp2_with (refine wpList_load_part rfl 27 (.tmp 6) rfl w.heap.size 0 rfl 29 VA SA (0, 0) _ HX.out Tryz.underlying27 rfl H26.out.iS (fun j hj => by have h := H26.out.c0 j (by rw [H26.out.z1] at hj; exact hj); first | exact h | (rw [Nat.zero_add]; exact h)) ?_)
  refine (HL1.out _).mono ?_
  generalize w.alloc (.cells VA 29) = y0 at *
  rintro e w1 ⟨rfl, hb⟩
  replace HX := Lib.hid ((hb.block _ HZ.out).trans HX.out); replace HB := Lib.hid (HB.out.trans (hb.mono HB.out.size)); replace HZ : Hid (w.heap.size < w1.heap.size) := Lib.hid (Nat.lt_of_lt_of_le HZ.out hb.size)
  clear hb
  cases ls
  · go_wp2_with fail
    refine (HAW.out _ HB.out).mono ?_
    rintro e w9 ⟨rfl, hb⟩
    replace HB := Lib.hid (HB.out.trans (hb.mono HB.out.size)); clear hb
    go_wp2_with fail
    go_ret
    exact ⟨rfl, HB.out⟩
  go_wp2_with (refine wpList_load_partG rfl 27 (.tmp 11) rfl w.heap.size 13 rfl 29 VA TA (0, 0) _ HX.out Tryz.underlying27 rfl H26.out.iT (fun j hj => by have h := H26.out.c1 j (by rw [H26.out.z2] at hj; exact hj); first | exact h | (rw [Nat.zero_add]; exact h)) ?_)
  refine (HL2.out _).mono ?_
  rintro e w2 ⟨rfl, hb⟩
  replace HX := Lib.hid ((hb.block _ HZ.out).trans HX.out); replace HB := Lib.hid (HB.out.trans (hb.mono HB.out.size)); replace HZ : Hid (w.heap.size < w2.heap.size) := Lib.hid (Nat.lt_of_lt_of_le HZ.out hb.size)
  clear hb
  cases lt
  · go_wp2_with fail
    refine (HAW.out _ HB.out).mono ?_
    rintro e w9 ⟨rfl, hb⟩
    replace HB := Lib.hid (HB.out.trans (hb.mono HB.out.size)); clear hb
    go_wp2_with fail
    go_ret
    exact ⟨rfl, HB.out⟩
  by_cases h5 : 500 < n3
  · have h6 : (500 : Int) < (n3 : Int) := by omega
    go_wp2_with fail
    refine (HAW.out _ HB.out).mono ?_
    rintro e w9 ⟨rfl, hb⟩
    replace HB := Lib.hid (HB.out.trans (hb.mono HB.out.size)); clear hb
    go_wp2_with fail
    go_ret
    exact ⟨rfl, HB.out⟩
  have h6 : ¬ (500 : Int) < (n3 : Int) := by omega
  replace HAG := Lib.hid (HAG.out (by first | rfl | trivial) (by first | rfl | trivial) (by omega)); replace HAG2 := Lib.hid (HAG2.out (by first | rfl | trivial) (by first | rfl | trivial) (by omega)); replace HSE1 := Lib.hid (HSE1.out (by first | rfl | trivial)); replace HSE2 := Lib.hid (HSE2.out (by first | rfl | trivial))
  go_wp2_with fail
  refine wp_region_flow (by kernel_rfl) (fun a b => b.heap[w.heap.size]? = a.heap[w.heap.size]?) ?_
  replace HX : Hid (w2.drew.heap[w.heap.size]? = _) := HX; replace HB := Lib.hid HB.out.drew; replace HZ : Hid (w.heap.size < w2.drew.heap.size) := HZ
  generalize w2.drew = z0 at *
  have hl1 := fun x => part_futs (F := (fun a b => b.heap[w.heap.size]? = a.heap[w.heap.size]?)) (fun _ => rfl) (off := 0) (fun _ h => h) HX.out H26.out.iS (fun j hj => by rw [Nat.zero_add]; exact H26.out.c0 j (by rw [H26.out.z1] at hj; exact hj)) x
  have hl2 := fun x => part_futs (F := (fun a b => b.heap[w.heap.size]? = a.heap[w.heap.size]?)) (fun _ => rfl) (off := 13) (fun _ h => h) HX.out H26.out.iT (fun j hj => H26.out.c1 j (by rw [H26.out.z2] at hj; exact hj)) x
  refine flow_reads (F := (fun a b => b.heap[w.heap.size]? = a.heap[w.heap.size]?)) (fun _ => rfl) (by kernel_rfl) [0, 1, 3, 4] (fuel := 5) (by kernel_rfl) ?_
  simp only [List.map_cons, List.map_nil, pick, List.getD_cons_zero, List.getD_cons_succ]
  repeat (first | (refine wpQuiet_load rfl 27 (.tmp 22) rfl ⟨w.heap.size, 0, none⟩ rfl (.agg SA) (fun w' h => by obtain ⟨x, rfl⟩ := h; exact hl1 x) ?_; simp only [Act.put, List.setIfInBounds_toArray, List.set_cons_succ, List.set_cons_zero]) | (refine wpQuiet_load rfl 27 (.tmp 25) rfl ⟨w.heap.size, 13, none⟩ rfl (.agg TA) (fun w' h => by obtain ⟨x, rfl⟩ := h; exact hl2 x) ?_; simp only [Act.put, List.setIfInBounds_toArray, List.set_cons_succ, List.set_cons_zero]) | go_big_quiet_step (fail))
  refine wpQuiet_nil ?_
  clear hl1 hl2
  refine flow_two (F := (fun a b => b.heap[w.heap.size]? = a.heap[w.heap.size]?)) (fun _ _ _ h k => k.trans h) (fun _ => rfl) 2 7 (by kernel_rfl) (by decide) (by decide) ?_ ?_ <;> simp only [pick, List.getD_cons_zero, List.getD_cons_succ]
  · go_wp2_with fail
    refine (HSE1.out _ HB.out).mono ?_
    rintro e u1 ⟨Pa1, pn1, pc1, Pb1, pm1, pk1, rfl, hla, hlp, hna, hnb, hb⟩
    have hf : u1.heap[w.heap.size]? = z0.heap[w.heap.size]? := hb.block _ HZ.out
    have MA1 : Hid (∀ ad, Pa1 = some ad → ad.block < u1.heap.size) := Lib.hid fun ad hA => (hna ad hA).2
    have MB1 : Hid (∀ ad, Pb1 = some ad → ad.block < u1.heap.size) := Lib.hid fun ad hA => (hnb ad hA).2
    replace HX := Lib.hid ((hb.block _ HZ.out).trans HX.out); replace HB := Lib.hid (HB.out.trans (hb.mono HB.out.size)); replace HZ : Hid (w.heap.size < u1.heap.size) := Lib.hid (Nat.lt_of_lt_of_le HZ.out hb.size)
    have HA1 := Lib.hid hla; have HP1 := Lib.hid hlp; clear hla hlp hna hnb hb
    obtain ⟨X1, eX1, zX1, oX1⟩ := one13 SS Pa1 pn1 pc1 Pb1 pm1 pk1
    rw [eX1]
    have HX1 := Lib.hid eX1; clear eX1 zX1 oX1
    go_wp2_with fail
    refine pieceEnd_normal ⟨hf, ?_⟩
    clear hf
    refine flow_two (F := (fun a b => b.heap[w.heap.size]? = a.heap[w.heap.size]?)) (fun _ _ _ h k => k.trans h) (fun _ => rfl) 5 7 (by kernel_rfl) (by decide) (by decide) ?_ ?_ <;> simp only [pick, List.getD_cons_zero, List.getD_cons_succ]
    · go_wp2_with fail
      refine (HSE2.out _ HB.out).mono ?_
      rintro e u2 ⟨Pa2, pn2, pc2, Pb2, pm2, pk2, rfl, hla, hlp, hna, hnb, hb⟩
      have hf : u2.heap[w.heap.size]? = u1.heap[w.heap.size]? := hb.block _ HZ.out
      have MA2 : Hid (∀ ad, Pa2 = some ad → ad.block < u2.heap.size) := Lib.hid fun ad hA => (hna ad hA).2
      have MB2 : Hid (∀ ad, Pb2 = some ad → ad.block < u2.heap.size) := Lib.hid fun ad hA => (hnb ad hA).2
      replace MA1 := Lib.hid fun ad hA => Nat.lt_of_lt_of_le (MA1.out ad hA) hb.size; replace MB1 := Lib.hid fun ad hA => Nat.lt_of_lt_of_le (MB1.out ad hA) hb.size
      replace HX := Lib.hid ((hb.block _ HZ.out).trans HX.out); replace HB := Lib.hid (HB.out.trans (hb.mono HB.out.size)); replace HZ : Hid (w.heap.size < u2.heap.size) := Lib.hid (Nat.lt_of_lt_of_le HZ.out hb.size)
      replace HA1 := Lib.hid (HA1.out.later hb); replace HP1 := Lib.hid (HP1.out.later hb)
      have HA2 := Lib.hid hla; have HP2 := Lib.hid hlp; clear hla hlp hna hnb hb
      obtain ⟨X2, eX2, zX2, oX2⟩ := one13 ST Pa2 pn2 pc2 Pb2 pm2 pk2
      rw [eX2]
      have HX2 := Lib.hid eX2; clear eX2 zX2 oX2
      go_wp2_with fail
      refine pieceEnd_normal ⟨hf, ?_⟩
      clear hf
      refine flow_two (F := (fun a b => b.heap[w.heap.size]? = a.heap[w.heap.size]?)) (fun _ _ _ h k => k.trans h) (fun _ => rfl) 6 7 (by kernel_rfl) (by decide) (by decide) ?_ ?_ <;> simp only [pick, List.getD_cons_zero, List.getD_cons_succ]
      · obtain ⟨SA2, TA2, VX, fS, fT, fV, g26⟩ := two26 SS Pa1 pn1 pc1 Pb1 pm1 pk1 ST Pa2 pn2 pc2 Pb2 pm2 pk2
        obtain rfl : SA2 = X1 := by have h := fS.symm.trans HX1.out; injection h
        obtain rfl : TA2 = X2 := by have h := fT.symm.trans HX2.out; injection h
        have G26 := Lib.hid g26; have HFV := Lib.hid fV; clear fS fT fV g26 HX1 HX2
        go_wp2_with (refine wpList_buildTo rfl 29 #[(0, .tmp 24), (1, .tmp 27)] rfl (some 28) rfl VX ((congrArg (Tryz.prog.built 29) (show _ = [(0, Value.agg SA2), (1, Value.agg TA2)] by kernel_rfl)).trans G26.out.blt) ?_)
        refine pieceEnd_normal ⟨rfl, ?_⟩
        refine flow_one (F := (fun a b => b.heap[w.heap.size]? = a.heap[w.heap.size]?)) (fun _ _ _ h k => k.trans h) (fun _ => rfl) 7 (by kernel_rfl) (by decide) ?_
        simp only [pick, List.getD_cons_zero, List.getD_cons_succ]
        go_wp2_with fail
        refine pieceEnd_normal ⟨(one_new u2 _).block _ HZ.out, ?_⟩
        obtain ⟨P5, hP5⟩ : ∃ P, P = u2.heap.size := ⟨_, rfl⟩
        have HPW : Hid (w.heap.size < P5) := Lib.hid (by rw [hP5]; exact HZ.out)
        have NA1 : Hid (∀ ad, Pa1 = some ad → ad.block ≠ P5) := Lib.hid fun ad hA => by have h1 := MA1.out ad hA; omega
        have NB1 : Hid (∀ ad, Pb1 = some ad → ad.block ≠ P5) := Lib.hid fun ad hA => by have h1 := MB1.out ad hA; omega
        have NA2 : Hid (∀ ad, Pa2 = some ad → ad.block ≠ P5) := Lib.hid fun ad hA => by have h1 := MA2.out ad hA; omega
        have NB2 : Hid (∀ ad, Pb2 = some ad → ad.block ≠ P5) := Lib.hid fun ad hA => by have h1 := MB2.out ad hA; omega
        have hn := one_new u2 (.cells #[.int .i64 0, .int .i64 0, .string ⟨#[]⟩, .int .i64 0, .int .i64 0, .int .i64 0, .int .i64 0, .int .i64 0, .slice none 0 0, .slice none 0 0, .string ⟨#[]⟩, .int .i64 0, .string ⟨#[]⟩, .int .i64 0, .int .i64 0, .string ⟨#[]⟩, .int .i64 0, .int .i64 0, .int .i64 0, .int .i64 0, .int .i64 0, .slice none 0 0, .slice none 0 0, .string ⟨#[]⟩, .int .i64 0, .string ⟨#[]⟩] 29)
        replace HX := Lib.hid ((hn.block _ HZ.out).trans HX.out); replace HB := Lib.hid (HB.out.trans (hn.mono HB.out.size)); replace HZ : Hid (w.heap.size < (u2.alloc (.cells #[.int .i64 0, .int .i64 0, .string ⟨#[]⟩, .int .i64 0, .int .i64 0, .int .i64 0, .int .i64 0, .int .i64 0, .slice none 0 0, .slice none 0 0, .string ⟨#[]⟩, .int .i64 0, .string ⟨#[]⟩, .int .i64 0, .int .i64 0, .string ⟨#[]⟩, .int .i64 0, .int .i64 0, .int .i64 0, .int .i64 0, .int .i64 0, .slice none 0 0, .slice none 0 0, .string ⟨#[]⟩, .int .i64 0, .string ⟨#[]⟩] 29)).heap.size) := Lib.hid (Nat.lt_of_lt_of_le HZ.out hn.size)
        replace HA1 := Lib.hid (HA1.out.later hn); replace HP1 := Lib.hid (HP1.out.later hn)
        replace HA2 := Lib.hid (HA2.out.later hn); replace HP2 := Lib.hid (HP2.out.later hn)
        have HT : Hid ((u2.alloc (.cells #[.int .i64 0, .int .i64 0, .string ⟨#[]⟩, .int .i64 0, .int .i64 0, .int .i64 0, .int .i64 0, .int .i64 0, .slice none 0 0, .slice none 0 0, .string ⟨#[]⟩, .int .i64 0, .string ⟨#[]⟩, .int .i64 0, .int .i64 0, .string ⟨#[]⟩, .int .i64 0, .int .i64 0, .int .i64 0, .int .i64 0, .int .i64 0, .slice none 0 0, .slice none 0 0, .string ⟨#[]⟩, .int .i64 0, .string ⟨#[]⟩] 29)).heap[P5]? = some (.cells #[.int .i64 0, .int .i64 0, .string ⟨#[]⟩, .int .i64 0, .int .i64 0, .int .i64 0, .int .i64 0, .int .i64 0, .slice none 0 0, .slice none 0 0, .string ⟨#[]⟩, .int .i64 0, .string ⟨#[]⟩, .int .i64 0, .int .i64 0, .string ⟨#[]⟩, .int .i64 0, .int .i64 0, .int .i64 0, .int .i64 0, .int .i64 0, .slice none 0 0, .slice none 0 0, .string ⟨#[]⟩, .int .i64 0, .string ⟨#[]⟩] 29 (0, 0))) := Lib.hid (by rw [hP5]; exact heap_alloc_new _ _)
        try rw [← hP5]
        have HPE := Lib.hid hP5; clear hn hP5
        generalize u2.alloc (.cells #[.int .i64 0, .int .i64 0, .string ⟨#[]⟩, .int .i64 0, .int .i64 0, .int .i64 0, .int .i64 0, .int .i64 0, .slice none 0 0, .slice none 0 0, .string ⟨#[]⟩, .int .i64 0, .string ⟨#[]⟩, .int .i64 0, .int .i64 0, .string ⟨#[]⟩, .int .i64 0, .int .i64 0, .int .i64 0, .int .i64 0, .int .i64 0, .slice none 0 0, .slice none 0 0, .string ⟨#[]⟩, .int .i64 0, .string ⟨#[]⟩] 29) = u4 at *
        refine flow_one (F := (fun a b => b.heap[w.heap.size]? = a.heap[w.heap.size]?)) (fun _ _ _ h k => k.trans h) (fun _ => rfl) 8 (by kernel_rfl) (by decide) ?_
        simp only [pick, List.getD_cons_zero, List.getD_cons_succ]
        go_wp2_with (refine wpList_store_row rfl 29 (.tmp 5) (.tmp 28) rfl P5 VX rfl rfl 29 _ HT.out G26.out.iF (by rw [G26.out.z3]; rfl) G26.out.o3 ?_)
        refine pieceEnd_normal ⟨setRow_other _ _ _ _ (by have := HPW.out; omega), ?_⟩
        replace HA1 : Hid (IRow (u4.setRow P5 VX) Pa1 pn1 pc1 SS.list) := Lib.hid (Row.keep HA1.out fun ad hA _ _ => setRow_other _ _ _ _ (NA1.out ad hA)); replace HP1 : Hid (PRow (u4.setRow P5 VX) Pb1 pm1 pk1 SS.pins) := Lib.hid (Row.keep HP1.out fun ad hA _ _ => setRow_other _ _ _ _ (NB1.out ad hA))
        replace HA2 : Hid (IRow (u4.setRow P5 VX) Pa2 pn2 pc2 ST.list) := Lib.hid (Row.keep HA2.out fun ad hA _ _ => setRow_other _ _ _ _ (NA2.out ad hA)); replace HP2 : Hid (PRow (u4.setRow P5 VX) Pb2 pm2 pk2 ST.pins) := Lib.hid (Row.keep HP2.out fun ad hA _ _ => setRow_other _ _ _ _ (NB2.out ad hA))
        replace HX := Lib.hid ((setRow_other u4 P5 w.heap.size VX (by have := HPW.out; omega)).trans HX.out)
        replace HB := Lib.hid (below_setRow HB.out (Nat.le_of_lt HPW.out) VX)
        replace HZ : Hid (w.heap.size < (u4.setRow P5 VX).heap.size) := Lib.hid (by rw [setRow_size]; exact HZ.out)
        replace HT := Lib.hid (setRow_heap u4 P5 _ VX _ _ HT.out)
        generalize u4.setRow P5 VX = u5 at *
        refine flow_done (by kernel_rfl) ?_
        go_wp2_with fail
        refine (HAW.out _ HB.out).mono ?_
        rintro e v1 ⟨rfl, hb⟩
        replace HX := Lib.hid ((hb.block _ HZ.out).trans HX.out); replace HB := Lib.hid (HB.out.trans (hb.mono HB.out.size)); replace HZ : Hid (w.heap.size < v1.heap.size) := Lib.hid (Nat.lt_of_lt_of_le HZ.out hb.size)
        replace HA1 := Lib.hid (HA1.out.later hb); replace HP1 := Lib.hid (HP1.out.later hb)
        replace HA2 := Lib.hid (HA2.out.later hb); replace HP2 := Lib.hid (HP2.out.later hb)
        replace HT := Lib.hid ((hb.block _ (Array.getElem?_eq_some_iff.1 HT.out).1).trans HT.out)
        clear hb
        go_wp2_with (refine wpList_load_rowG rfl 29 (.tmp 2) rfl w.heap.size rfl 29 VA (0, 0) _ HX.out Tryz.underlying29 rfl H26.out.iF ?_)
        refine (HAG.out _ HB.out).mono ?_
        rintro e v2 ⟨rfl, hb⟩
        replace HX := Lib.hid ((hb.block _ HZ.out).trans HX.out); replace HB := Lib.hid (HB.out.trans (hb.mono HB.out.size)); replace HZ : Hid (w.heap.size < v2.heap.size) := Lib.hid (Nat.lt_of_lt_of_le HZ.out hb.size)
        replace HA1 := Lib.hid (HA1.out.later hb); replace HP1 := Lib.hid (HP1.out.later hb)
        replace HA2 := Lib.hid (HA2.out.later hb); replace HP2 := Lib.hid (HP2.out.later hb)
        replace HT := Lib.hid ((hb.block _ (Array.getElem?_eq_some_iff.1 HT.out).1).trans HT.out)
        clear hb
        go_wp2_with (refine wpList_load_rowG rfl 29 (.tmp 5) rfl P5 rfl 29 VX (0, 0) _ HT.out Tryz.underlying29 rfl G26.out.iF ?_)
        have hag := HAG2.out _ HB.out _ _ _ _ _ _ _ _ _ _ _ _ HA1.out HP1.out HA2.out HP2.out
        rw [HFV.out] at hag
        refine hag.mono ?_
        rintro e v3 ⟨rfl, hb⟩
        replace HB := Lib.hid (HB.out.trans (hb.mono HB.out.size)); clear hb hag
        go_wp2_with fail
        go_ret
        exact ⟨rfl, HB.out⟩
      · go_wp2_with fail
        refine pieceEnd_normal ⟨(one_new u2 _).block _ HZ.out, ?_⟩
        obtain ⟨P5, hP5⟩ : ∃ P, P = u2.heap.size := ⟨_, rfl⟩
        have HPW : Hid (w.heap.size < P5) := Lib.hid (by rw [hP5]; exact HZ.out)
        have NA1 : Hid (∀ ad, Pa1 = some ad → ad.block ≠ P5) := Lib.hid fun ad hA => by have h1 := MA1.out ad hA; omega
        have NB1 : Hid (∀ ad, Pb1 = some ad → ad.block ≠ P5) := Lib.hid fun ad hA => by have h1 := MB1.out ad hA; omega
        have NA2 : Hid (∀ ad, Pa2 = some ad → ad.block ≠ P5) := Lib.hid fun ad hA => by have h1 := MA2.out ad hA; omega
        have NB2 : Hid (∀ ad, Pb2 = some ad → ad.block ≠ P5) := Lib.hid fun ad hA => by have h1 := MB2.out ad hA; omega
        have hn := one_new u2 (.cells #[.int .i64 0, .int .i64 0, .string ⟨#[]⟩, .int .i64 0, .int .i64 0, .int .i64 0, .int .i64 0, .int .i64 0, .slice none 0 0, .slice none 0 0, .string ⟨#[]⟩, .int .i64 0, .string ⟨#[]⟩, .int .i64 0, .int .i64 0, .string ⟨#[]⟩, .int .i64 0, .int .i64 0, .int .i64 0, .int .i64 0, .int .i64 0, .slice none 0 0, .slice none 0 0, .string ⟨#[]⟩, .int .i64 0, .string ⟨#[]⟩] 29)
        replace HX := Lib.hid ((hn.block _ HZ.out).trans HX.out); replace HB := Lib.hid (HB.out.trans (hn.mono HB.out.size)); replace HZ : Hid (w.heap.size < (u2.alloc (.cells #[.int .i64 0, .int .i64 0, .string ⟨#[]⟩, .int .i64 0, .int .i64 0, .int .i64 0, .int .i64 0, .int .i64 0, .slice none 0 0, .slice none 0 0, .string ⟨#[]⟩, .int .i64 0, .string ⟨#[]⟩, .int .i64 0, .int .i64 0, .string ⟨#[]⟩, .int .i64 0, .int .i64 0, .int .i64 0, .int .i64 0, .int .i64 0, .slice none 0 0, .slice none 0 0, .string ⟨#[]⟩, .int .i64 0, .string ⟨#[]⟩] 29)).heap.size) := Lib.hid (Nat.lt_of_lt_of_le HZ.out hn.size)
        replace HA1 := Lib.hid (HA1.out.later hn); replace HP1 := Lib.hid (HP1.out.later hn)
        replace HA2 := Lib.hid (HA2.out.later hn); replace HP2 := Lib.hid (HP2.out.later hn)
        have HT : Hid ((u2.alloc (.cells #[.int .i64 0, .int .i64 0, .string ⟨#[]⟩, .int .i64 0, .int .i64 0, .int .i64 0, .int .i64 0, .int .i64 0, .slice none 0 0, .slice none 0 0, .string ⟨#[]⟩, .int .i64 0, .string ⟨#[]⟩, .int .i64 0, .int .i64 0, .string ⟨#[]⟩, .int .i64 0, .int .i64 0, .int .i64 0, .int .i64 0, .int .i64 0, .slice none 0 0, .slice none 0 0, .string ⟨#[]⟩, .int .i64 0, .string ⟨#[]⟩] 29)).heap[P5]? = some (.cells #[.int .i64 0, .int .i64 0, .string ⟨#[]⟩, .int .i64 0, .int .i64 0, .int .i64 0, .int .i64 0, .int .i64 0, .slice none 0 0, .slice none 0 0, .string ⟨#[]⟩, .int .i64 0, .string ⟨#[]⟩, .int .i64 0, .int .i64 0, .string ⟨#[]⟩, .int .i64 0, .int .i64 0, .int .i64 0, .int .i64 0, .int .i64 0, .slice none 0 0, .slice none 0 0, .string ⟨#[]⟩, .int .i64 0, .string ⟨#[]⟩] 29 (0, 0))) := Lib.hid (by rw [hP5]; exact heap_alloc_new _ _)
        try rw [← hP5]
        have HPE := Lib.hid hP5; clear hn hP5
        generalize u2.alloc (.cells #[.int .i64 0, .int .i64 0, .string ⟨#[]⟩, .int .i64 0, .int .i64 0, .int .i64 0, .int .i64 0, .int .i64 0, .slice none 0 0, .slice none 0 0, .string ⟨#[]⟩, .int .i64 0, .string ⟨#[]⟩, .int .i64 0, .int .i64 0, .string ⟨#[]⟩, .int .i64 0, .int .i64 0, .int .i64 0, .int .i64 0, .int .i64 0, .slice none 0 0, .slice none 0 0, .string ⟨#[]⟩, .int .i64 0, .string ⟨#[]⟩] 29) = u6 at *
        refine flow_one (F := (fun a b => b.heap[w.heap.size]? = a.heap[w.heap.size]?)) (fun _ _ _ h k => k.trans h) (fun _ => rfl) 6 (by kernel_rfl) (by decide) ?_
        simp only [pick, List.getD_cons_zero, List.getD_cons_succ]
        obtain ⟨SA2, TA2, VX, fS, fT, fV, g26⟩ := two26 SS Pa1 pn1 pc1 Pb1 pm1 pk1 ST Pa2 pn2 pc2 Pb2 pm2 pk2
        obtain rfl : SA2 = X1 := by have h := fS.symm.trans HX1.out; injection h
        obtain rfl : TA2 = X2 := by have h := fT.symm.trans HX2.out; injection h
        have G26 := Lib.hid g26; have HFV := Lib.hid fV; clear fS fT fV g26 HX1 HX2
        go_wp2_with (refine wpList_buildTo rfl 29 #[(0, .tmp 24), (1, .tmp 27)] rfl (some 28) rfl VX ((congrArg (Tryz.prog.built 29) (show _ = [(0, Value.agg SA2), (1, Value.agg TA2)] by kernel_rfl)).trans G26.out.blt) ?_)
        refine pieceEnd_normal ⟨rfl, ?_⟩
        refine flow_one (F := (fun a b => b.heap[w.heap.size]? = a.heap[w.heap.size]?)) (fun _ _ _ h k => k.trans h) (fun _ => rfl) 8 (by kernel_rfl) (by decide) ?_
        simp only [pick, List.getD_cons_zero, List.getD_cons_succ]
        go_wp2_with (refine wpList_store_row rfl 29 (.tmp 5) (.tmp 28) rfl P5 VX rfl rfl 29 _ HT.out G26.out.iF (by rw [G26.out.z3]; rfl) G26.out.o3 ?_)
        refine pieceEnd_normal ⟨setRow_other _ _ _ _ (by have := HPW.out; omega), ?_⟩
        replace HA1 : Hid (IRow (u6.setRow P5 VX) Pa1 pn1 pc1 SS.list) := Lib.hid (Row.keep HA1.out fun ad hA _ _ => setRow_other _ _ _ _ (NA1.out ad hA)); replace HP1 : Hid (PRow (u6.setRow P5 VX) Pb1 pm1 pk1 SS.pins) := Lib.hid (Row.keep HP1.out fun ad hA _ _ => setRow_other _ _ _ _ (NB1.out ad hA))
        replace HA2 : Hid (IRow (u6.setRow P5 VX) Pa2 pn2 pc2 ST.list) := Lib.hid (Row.keep HA2.out fun ad hA _ _ => setRow_other _ _ _ _ (NA2.out ad hA)); replace HP2 : Hid (PRow (u6.setRow P5 VX) Pb2 pm2 pk2 ST.pins) := Lib.hid (Row.keep HP2.out fun ad hA _ _ => setRow_other _ _ _ _ (NB2.out ad hA))
        replace HX := Lib.hid ((setRow_other u6 P5 w.heap.size VX (by have := HPW.out; omega)).trans HX.out)
        replace HB := Lib.hid (below_setRow HB.out (Nat.le_of_lt HPW.out) VX)
        replace HZ : Hid (w.heap.size < (u6.setRow P5 VX).heap.size) := Lib.hid (by rw [setRow_size]; exact HZ.out)
        replace HT := Lib.hid (setRow_heap u6 P5 _ VX _ _ HT.out)
        generalize u6.setRow P5 VX = u8 at *
        refine flow_done (by kernel_rfl) ?_
        go_wp2_with fail
        refine (HAW.out _ HB.out).mono ?_
        rintro e v1 ⟨rfl, hb⟩
        replace HX := Lib.hid ((hb.block _ HZ.out).trans HX.out); replace HB := Lib.hid (HB.out.trans (hb.mono HB.out.size)); replace HZ : Hid (w.heap.size < v1.heap.size) := Lib.hid (Nat.lt_of_lt_of_le HZ.out hb.size)
        replace HA1 := Lib.hid (HA1.out.later hb); replace HP1 := Lib.hid (HP1.out.later hb)
        replace HA2 := Lib.hid (HA2.out.later hb); replace HP2 := Lib.hid (HP2.out.later hb)
        replace HT := Lib.hid ((hb.block _ (Array.getElem?_eq_some_iff.1 HT.out).1).trans HT.out)
        clear hb
        go_wp2_with (refine wpList_load_rowG rfl 29 (.tmp 2) rfl w.heap.size rfl 29 VA (0, 0) _ HX.out Tryz.underlying29 rfl H26.out.iF ?_)
        refine (HAG.out _ HB.out).mono ?_
        rintro e v2 ⟨rfl, hb⟩
        replace HX := Lib.hid ((hb.block _ HZ.out).trans HX.out); replace HB := Lib.hid (HB.out.trans (hb.mono HB.out.size)); replace HZ : Hid (w.heap.size < v2.heap.size) := Lib.hid (Nat.lt_of_lt_of_le HZ.out hb.size)
        replace HA1 := Lib.hid (HA1.out.later hb); replace HP1 := Lib.hid (HP1.out.later hb)
        replace HA2 := Lib.hid (HA2.out.later hb); replace HP2 := Lib.hid (HP2.out.later hb)
        replace HT := Lib.hid ((hb.block _ (Array.getElem?_eq_some_iff.1 HT.out).1).trans HT.out)
        clear hb
        go_wp2_with (refine wpList_load_rowG rfl 29 (.tmp 5) rfl P5 rfl 29 VX (0, 0) _ HT.out Tryz.underlying29 rfl G26.out.iF ?_)
        have hag := HAG2.out _ HB.out _ _ _ _ _ _ _ _ _ _ _ _ HA1.out HP1.out HA2.out HP2.out
        rw [HFV.out] at hag
        refine hag.mono ?_
        rintro e v3 ⟨rfl, hb⟩
        replace HB := Lib.hid (HB.out.trans (hb.mono HB.out.size)); clear hb hag
        go_wp2_with fail
        go_ret
        exact ⟨rfl, HB.out⟩
    · go_wp2_with fail
      refine pieceEnd_normal ⟨(one_new u1 _).block _ HZ.out, ?_⟩
      obtain ⟨P5, hP5⟩ : ∃ P, P = u1.heap.size := ⟨_, rfl⟩
      have HPW : Hid (w.heap.size < P5) := Lib.hid (by rw [hP5]; exact HZ.out)
      have NA1 : Hid (∀ ad, Pa1 = some ad → ad.block ≠ P5) := Lib.hid fun ad hA => by have h1 := MA1.out ad hA; omega
      have NB1 : Hid (∀ ad, Pb1 = some ad → ad.block ≠ P5) := Lib.hid fun ad hA => by have h1 := MB1.out ad hA; omega
      have hn := one_new u1 (.cells #[.int .i64 0, .int .i64 0, .string ⟨#[]⟩, .int .i64 0, .int .i64 0, .int .i64 0, .int .i64 0, .int .i64 0, .slice none 0 0, .slice none 0 0, .string ⟨#[]⟩, .int .i64 0, .string ⟨#[]⟩, .int .i64 0, .int .i64 0, .string ⟨#[]⟩, .int .i64 0, .int .i64 0, .int .i64 0, .int .i64 0, .int .i64 0, .slice none 0 0, .slice none 0 0, .string ⟨#[]⟩, .int .i64 0, .string ⟨#[]⟩] 29)
      replace HX := Lib.hid ((hn.block _ HZ.out).trans HX.out); replace HB := Lib.hid (HB.out.trans (hn.mono HB.out.size)); replace HZ : Hid (w.heap.size < (u1.alloc (.cells #[.int .i64 0, .int .i64 0, .string ⟨#[]⟩, .int .i64 0, .int .i64 0, .int .i64 0, .int .i64 0, .int .i64 0, .slice none 0 0, .slice none 0 0, .string ⟨#[]⟩, .int .i64 0, .string ⟨#[]⟩, .int .i64 0, .int .i64 0, .string ⟨#[]⟩, .int .i64 0, .int .i64 0, .int .i64 0, .int .i64 0, .int .i64 0, .slice none 0 0, .slice none 0 0, .string ⟨#[]⟩, .int .i64 0, .string ⟨#[]⟩] 29)).heap.size) := Lib.hid (Nat.lt_of_lt_of_le HZ.out hn.size)
      replace HA1 := Lib.hid (HA1.out.later hn); replace HP1 := Lib.hid (HP1.out.later hn)
      have HT : Hid ((u1.alloc (.cells #[.int .i64 0, .int .i64 0, .string ⟨#[]⟩, .int .i64 0, .int .i64 0, .int .i64 0, .int .i64 0, .int .i64 0, .slice none 0 0, .slice none 0 0, .string ⟨#[]⟩, .int .i64 0, .string ⟨#[]⟩, .int .i64 0, .int .i64 0, .string ⟨#[]⟩, .int .i64 0, .int .i64 0, .int .i64 0, .int .i64 0, .int .i64 0, .slice none 0 0, .slice none 0 0, .string ⟨#[]⟩, .int .i64 0, .string ⟨#[]⟩] 29)).heap[P5]? = some (.cells #[.int .i64 0, .int .i64 0, .string ⟨#[]⟩, .int .i64 0, .int .i64 0, .int .i64 0, .int .i64 0, .int .i64 0, .slice none 0 0, .slice none 0 0, .string ⟨#[]⟩, .int .i64 0, .string ⟨#[]⟩, .int .i64 0, .int .i64 0, .string ⟨#[]⟩, .int .i64 0, .int .i64 0, .int .i64 0, .int .i64 0, .int .i64 0, .slice none 0 0, .slice none 0 0, .string ⟨#[]⟩, .int .i64 0, .string ⟨#[]⟩] 29 (0, 0))) := Lib.hid (by rw [hP5]; exact heap_alloc_new _ _)
      try rw [← hP5]
      have HPE := Lib.hid hP5; clear hn hP5
      generalize u1.alloc (.cells #[.int .i64 0, .int .i64 0, .string ⟨#[]⟩, .int .i64 0, .int .i64 0, .int .i64 0, .int .i64 0, .int .i64 0, .slice none 0 0, .slice none 0 0, .string ⟨#[]⟩, .int .i64 0, .string ⟨#[]⟩, .int .i64 0, .int .i64 0, .string ⟨#[]⟩, .int .i64 0, .int .i64 0, .int .i64 0, .int .i64 0, .int .i64 0, .slice none 0 0, .slice none 0 0, .string ⟨#[]⟩, .int .i64 0, .string ⟨#[]⟩] 29) = u9 at *
      refine flow_one (F := (fun a b => b.heap[w.heap.size]? = a.heap[w.heap.size]?)) (fun _ _ _ h k => k.trans h) (fun _ => rfl) 5 (by kernel_rfl) (by decide) ?_
      simp only [pick, List.getD_cons_zero, List.getD_cons_succ]
      go_wp2_with fail
      refine (HSE2.out _ HB.out).mono ?_
      rintro e u10 ⟨Pa2, pn2, pc2, Pb2, pm2, pk2, rfl, hla, hlp, hna, hnb, hb⟩
      have hf : u10.heap[w.heap.size]? = u9.heap[w.heap.size]? := hb.block _ HZ.out
      have NA2 : Hid (∀ ad, Pa2 = some ad → ad.block ≠ P5) := Lib.hid fun ad hA => by have h1 := (hna ad hA).1; have h2 := (Array.getElem?_eq_some_iff.1 HT.out).1; omega
      have NB2 : Hid (∀ ad, Pb2 = some ad → ad.block ≠ P5) := Lib.hid fun ad hA => by have h1 := (hnb ad hA).1; have h2 := (Array.getElem?_eq_some_iff.1 HT.out).1; omega
      replace HX := Lib.hid ((hb.block _ HZ.out).trans HX.out); replace HB := Lib.hid (HB.out.trans (hb.mono HB.out.size)); replace HZ : Hid (w.heap.size < u10.heap.size) := Lib.hid (Nat.lt_of_lt_of_le HZ.out hb.size)
      replace HA1 := Lib.hid (HA1.out.later hb); replace HP1 := Lib.hid (HP1.out.later hb)
      replace HT := Lib.hid ((hb.block _ (Array.getElem?_eq_some_iff.1 HT.out).1).trans HT.out)
      have HA2 := Lib.hid hla; have HP2 := Lib.hid hlp; clear hla hlp hna hnb hb
      obtain ⟨X2, eX2, zX2, oX2⟩ := one13 ST Pa2 pn2 pc2 Pb2 pm2 pk2
      rw [eX2]
      have HX2 := Lib.hid eX2; clear eX2 zX2 oX2
      go_wp2_with fail
      refine pieceEnd_normal ⟨hf, ?_⟩
      clear hf
      refine flow_one (F := (fun a b => b.heap[w.heap.size]? = a.heap[w.heap.size]?)) (fun _ _ _ h k => k.trans h) (fun _ => rfl) 6 (by kernel_rfl) (by decide) ?_
      simp only [pick, List.getD_cons_zero, List.getD_cons_succ]
      obtain ⟨SA2, TA2, VX, fS, fT, fV, g26⟩ := two26 SS Pa1 pn1 pc1 Pb1 pm1 pk1 ST Pa2 pn2 pc2 Pb2 pm2 pk2
      obtain rfl : SA2 = X1 := by have h := fS.symm.trans HX1.out; injection h
      obtain rfl : TA2 = X2 := by have h := fT.symm.trans HX2.out; injection h
      have G26 := Lib.hid g26; have HFV := Lib.hid fV; clear fS fT fV g26 HX1 HX2
      go_wp2_with (refine wpList_buildTo rfl 29 #[(0, .tmp 24), (1, .tmp 27)] rfl (some 28) rfl VX ((congrArg (Tryz.prog.built 29) (show _ = [(0, Value.agg SA2), (1, Value.agg TA2)] by kernel_rfl)).trans G26.out.blt) ?_)
      refine pieceEnd_normal ⟨rfl, ?_⟩
      refine flow_one (F := (fun a b => b.heap[w.heap.size]? = a.heap[w.heap.size]?)) (fun _ _ _ h k => k.trans h) (fun _ => rfl) 8 (by kernel_rfl) (by decide) ?_
      simp only [pick, List.getD_cons_zero, List.getD_cons_succ]
      go_wp2_with (refine wpList_store_row rfl 29 (.tmp 5) (.tmp 28) rfl P5 VX rfl rfl 29 _ HT.out G26.out.iF (by rw [G26.out.z3]; rfl) G26.out.o3 ?_)
      refine pieceEnd_normal ⟨setRow_other _ _ _ _ (by have := HPW.out; omega), ?_⟩
      replace HA1 : Hid (IRow (u10.setRow P5 VX) Pa1 pn1 pc1 SS.list) := Lib.hid (Row.keep HA1.out fun ad hA _ _ => setRow_other _ _ _ _ (NA1.out ad hA)); replace HP1 : Hid (PRow (u10.setRow P5 VX) Pb1 pm1 pk1 SS.pins) := Lib.hid (Row.keep HP1.out fun ad hA _ _ => setRow_other _ _ _ _ (NB1.out ad hA))
      replace HA2 : Hid (IRow (u10.setRow P5 VX) Pa2 pn2 pc2 ST.list) := Lib.hid (Row.keep HA2.out fun ad hA _ _ => setRow_other _ _ _ _ (NA2.out ad hA)); replace HP2 : Hid (PRow (u10.setRow P5 VX) Pb2 pm2 pk2 ST.pins) := Lib.hid (Row.keep HP2.out fun ad hA _ _ => setRow_other _ _ _ _ (NB2.out ad hA))
      replace HX := Lib.hid ((setRow_other u10 P5 w.heap.size VX (by have := HPW.out; omega)).trans HX.out)
      replace HB := Lib.hid (below_setRow HB.out (Nat.le_of_lt HPW.out) VX)
      replace HZ : Hid (w.heap.size < (u10.setRow P5 VX).heap.size) := Lib.hid (by rw [setRow_size]; exact HZ.out)
      replace HT := Lib.hid (setRow_heap u10 P5 _ VX _ _ HT.out)
      generalize u10.setRow P5 VX = u12 at *
      refine flow_done (by kernel_rfl) ?_
      go_wp2_with fail
      refine (HAW.out _ HB.out).mono ?_
      rintro e v1 ⟨rfl, hb⟩
      replace HX := Lib.hid ((hb.block _ HZ.out).trans HX.out); replace HB := Lib.hid (HB.out.trans (hb.mono HB.out.size)); replace HZ : Hid (w.heap.size < v1.heap.size) := Lib.hid (Nat.lt_of_lt_of_le HZ.out hb.size)
      replace HA1 := Lib.hid (HA1.out.later hb); replace HP1 := Lib.hid (HP1.out.later hb)
      replace HA2 := Lib.hid (HA2.out.later hb); replace HP2 := Lib.hid (HP2.out.later hb)
      replace HT := Lib.hid ((hb.block _ (Array.getElem?_eq_some_iff.1 HT.out).1).trans HT.out)
      clear hb
      go_wp2_with (refine wpList_load_rowG rfl 29 (.tmp 2) rfl w.heap.size rfl 29 VA (0, 0) _ HX.out Tryz.underlying29 rfl H26.out.iF ?_)
      refine (HAG.out _ HB.out).mono ?_
      rintro e v2 ⟨rfl, hb⟩
      replace HX := Lib.hid ((hb.block _ HZ.out).trans HX.out); replace HB := Lib.hid (HB.out.trans (hb.mono HB.out.size)); replace HZ : Hid (w.heap.size < v2.heap.size) := Lib.hid (Nat.lt_of_lt_of_le HZ.out hb.size)
      replace HA1 := Lib.hid (HA1.out.later hb); replace HP1 := Lib.hid (HP1.out.later hb)
      replace HA2 := Lib.hid (HA2.out.later hb); replace HP2 := Lib.hid (HP2.out.later hb)
      replace HT := Lib.hid ((hb.block _ (Array.getElem?_eq_some_iff.1 HT.out).1).trans HT.out)
      clear hb
      go_wp2_with (refine wpList_load_rowG rfl 29 (.tmp 5) rfl P5 rfl 29 VX (0, 0) _ HT.out Tryz.underlying29 rfl G26.out.iF ?_)
      have hag := HAG2.out _ HB.out _ _ _ _ _ _ _ _ _ _ _ _ HA1.out HP1.out HA2.out HP2.out
      rw [HFV.out] at hag
      refine hag.mono ?_
      rintro e v3 ⟨rfl, hb⟩
      replace HB := Lib.hid (HB.out.trans (hb.mono HB.out.size)); clear hb hag
      go_wp2_with fail
      go_ret
      exact ⟨rfl, HB.out⟩
  · go_wp2_with fail
    refine pieceEnd_normal ⟨(one_new z0 _).block _ HZ.out, ?_⟩
    obtain ⟨P5, hP5⟩ : ∃ P, P = z0.heap.size := ⟨_, rfl⟩
    have HPW : Hid (w.heap.size < P5) := Lib.hid (by rw [hP5]; exact HZ.out)
    have hn := one_new z0 (.cells #[.int .i64 0, .int .i64 0, .string ⟨#[]⟩, .int .i64 0, .int .i64 0, .int .i64 0, .int .i64 0, .int .i64 0, .slice none 0 0, .slice none 0 0, .string ⟨#[]⟩, .int .i64 0, .string ⟨#[]⟩, .int .i64 0, .int .i64 0, .string ⟨#[]⟩, .int .i64 0, .int .i64 0, .int .i64 0, .int .i64 0, .int .i64 0, .slice none 0 0, .slice none 0 0, .string ⟨#[]⟩, .int .i64 0, .string ⟨#[]⟩] 29)
    replace HX := Lib.hid ((hn.block _ HZ.out).trans HX.out); replace HB := Lib.hid (HB.out.trans (hn.mono HB.out.size)); replace HZ : Hid (w.heap.size < (z0.alloc (.cells #[.int .i64 0, .int .i64 0, .string ⟨#[]⟩, .int .i64 0, .int .i64 0, .int .i64 0, .int .i64 0, .int .i64 0, .slice none 0 0, .slice none 0 0, .string ⟨#[]⟩, .int .i64 0, .string ⟨#[]⟩, .int .i64 0, .int .i64 0, .string ⟨#[]⟩, .int .i64 0, .int .i64 0, .int .i64 0, .int .i64 0, .int .i64 0, .slice none 0 0, .slice none 0 0, .string ⟨#[]⟩, .int .i64 0, .string ⟨#[]⟩] 29)).heap.size) := Lib.hid (Nat.lt_of_lt_of_le HZ.out hn.size)
    have HT : Hid ((z0.alloc (.cells #[.int .i64 0, .int .i64 0, .string ⟨#[]⟩, .int .i64 0, .int .i64 0, .int .i64 0, .int .i64 0, .int .i64 0, .slice none 0 0, .slice none 0 0, .string ⟨#[]⟩, .int .i64 0, .string ⟨#[]⟩, .int .i64 0, .int .i64 0, .string ⟨#[]⟩, .int .i64 0, .int .i64 0, .int .i64 0, .int .i64 0, .int .i64 0, .slice none 0 0, .slice none 0 0, .string ⟨#[]⟩, .int .i64 0, .string ⟨#[]⟩] 29)).heap[P5]? = some (.cells #[.int .i64 0, .int .i64 0, .string ⟨#[]⟩, .int .i64 0, .int .i64 0, .int .i64 0, .int .i64 0, .int .i64 0, .slice none 0 0, .slice none 0 0, .string ⟨#[]⟩, .int .i64 0, .string ⟨#[]⟩, .int .i64 0, .int .i64 0, .string ⟨#[]⟩, .int .i64 0, .int .i64 0, .int .i64 0, .int .i64 0, .int .i64 0, .slice none 0 0, .slice none 0 0, .string ⟨#[]⟩, .int .i64 0, .string ⟨#[]⟩] 29 (0, 0))) := Lib.hid (by rw [hP5]; exact heap_alloc_new _ _)
    try rw [← hP5]
    have HPE := Lib.hid hP5; clear hn hP5
    generalize z0.alloc (.cells #[.int .i64 0, .int .i64 0, .string ⟨#[]⟩, .int .i64 0, .int .i64 0, .int .i64 0, .int .i64 0, .int .i64 0, .slice none 0 0, .slice none 0 0, .string ⟨#[]⟩, .int .i64 0, .string ⟨#[]⟩, .int .i64 0, .int .i64 0, .string ⟨#[]⟩, .int .i64 0, .int .i64 0, .int .i64 0, .int .i64 0, .int .i64 0, .slice none 0 0, .slice none 0 0, .string ⟨#[]⟩, .int .i64 0, .string ⟨#[]⟩] 29) = u13 at *
    refine flow_one (F := (fun a b => b.heap[w.heap.size]? = a.heap[w.heap.size]?)) (fun _ _ _ h k => k.trans h) (fun _ => rfl) 2 (by kernel_rfl) (by decide) ?_
    simp only [pick, List.getD_cons_zero, List.getD_cons_succ]
    go_wp2_with fail
    refine (HSE1.out _ HB.out).mono ?_
    rintro e u14 ⟨Pa1, pn1, pc1, Pb1, pm1, pk1, rfl, hla, hlp, hna, hnb, hb⟩
    have hf : u14.heap[w.heap.size]? = u13.heap[w.heap.size]? := hb.block _ HZ.out
    have NA1 : Hid (∀ ad, Pa1 = some ad → ad.block ≠ P5) := Lib.hid fun ad hA => by have h1 := (hna ad hA).1; have h2 := (Array.getElem?_eq_some_iff.1 HT.out).1; omega
    have NB1 : Hid (∀ ad, Pb1 = some ad → ad.block ≠ P5) := Lib.hid fun ad hA => by have h1 := (hnb ad hA).1; have h2 := (Array.getElem?_eq_some_iff.1 HT.out).1; omega
    replace HX := Lib.hid ((hb.block _ HZ.out).trans HX.out); replace HB := Lib.hid (HB.out.trans (hb.mono HB.out.size)); replace HZ : Hid (w.heap.size < u14.heap.size) := Lib.hid (Nat.lt_of_lt_of_le HZ.out hb.size)
    replace HT := Lib.hid ((hb.block _ (Array.getElem?_eq_some_iff.1 HT.out).1).trans HT.out)
    have HA1 := Lib.hid hla; have HP1 := Lib.hid hlp; clear hla hlp hna hnb hb
    obtain ⟨X1, eX1, zX1, oX1⟩ := one13 SS Pa1 pn1 pc1 Pb1 pm1 pk1
    rw [eX1]
    have HX1 := Lib.hid eX1; clear eX1 zX1 oX1
    go_wp2_with fail
    refine pieceEnd_normal ⟨hf, ?_⟩
    clear hf
    refine flow_one (F := (fun a b => b.heap[w.heap.size]? = a.heap[w.heap.size]?)) (fun _ _ _ h k => k.trans h) (fun _ => rfl) 5 (by kernel_rfl) (by decide) ?_
    simp only [pick, List.getD_cons_zero, List.getD_cons_succ]
    go_wp2_with fail
    refine (HSE2.out _ HB.out).mono ?_
    rintro e u15 ⟨Pa2, pn2, pc2, Pb2, pm2, pk2, rfl, hla, hlp, hna, hnb, hb⟩
    have hf : u15.heap[w.heap.size]? = u14.heap[w.heap.size]? := hb.block _ HZ.out
    have NA2 : Hid (∀ ad, Pa2 = some ad → ad.block ≠ P5) := Lib.hid fun ad hA => by have h1 := (hna ad hA).1; have h2 := (Array.getElem?_eq_some_iff.1 HT.out).1; omega
    have NB2 : Hid (∀ ad, Pb2 = some ad → ad.block ≠ P5) := Lib.hid fun ad hA => by have h1 := (hnb ad hA).1; have h2 := (Array.getElem?_eq_some_iff.1 HT.out).1; omega
    replace HX := Lib.hid ((hb.block _ HZ.out).trans HX.out); replace HB := Lib.hid (HB.out.trans (hb.mono HB.out.size)); replace HZ : Hid (w.heap.size < u15.heap.size) := Lib.hid (Nat.lt_of_lt_of_le HZ.out hb.size)
    replace HA1 := Lib.hid (HA1.out.later hb); replace HP1 := Lib.hid (HP1.out.later hb)
    replace HT := Lib.hid ((hb.block _ (Array.getElem?_eq_some_iff.1 HT.out).1).trans HT.out)
    have HA2 := Lib.hid hla; have HP2 := Lib.hid hlp; clear hla hlp hna hnb hb
    obtain ⟨X2, eX2, zX2, oX2⟩ := one13 ST Pa2 pn2 pc2 Pb2 pm2 pk2
    rw [eX2]
    have HX2 := Lib.hid eX2; clear eX2 zX2 oX2
    go_wp2_with fail
    refine pieceEnd_normal ⟨hf, ?_⟩
    clear hf
    refine flow_one (F := (fun a b => b.heap[w.heap.size]? = a.heap[w.heap.size]?)) (fun _ _ _ h k => k.trans h) (fun _ => rfl) 6 (by kernel_rfl) (by decide) ?_
    simp only [pick, List.getD_cons_zero, List.getD_cons_succ]
    obtain ⟨SA2, TA2, VX, fS, fT, fV, g26⟩ := two26 SS Pa1 pn1 pc1 Pb1 pm1 pk1 ST Pa2 pn2 pc2 Pb2 pm2 pk2
    obtain rfl : SA2 = X1 := by have h := fS.symm.trans HX1.out; injection h
    obtain rfl : TA2 = X2 := by have h := fT.symm.trans HX2.out; injection h
    have G26 := Lib.hid g26; have HFV := Lib.hid fV; clear fS fT fV g26 HX1 HX2
    go_wp2_with (refine wpList_buildTo rfl 29 #[(0, .tmp 24), (1, .tmp 27)] rfl (some 28) rfl VX ((congrArg (Tryz.prog.built 29) (show _ = [(0, Value.agg SA2), (1, Value.agg TA2)] by kernel_rfl)).trans G26.out.blt) ?_)
    refine pieceEnd_normal ⟨rfl, ?_⟩
    refine flow_one (F := (fun a b => b.heap[w.heap.size]? = a.heap[w.heap.size]?)) (fun _ _ _ h k => k.trans h) (fun _ => rfl) 8 (by kernel_rfl) (by decide) ?_
    simp only [pick, List.getD_cons_zero, List.getD_cons_succ]
    go_wp2_with (refine wpList_store_row rfl 29 (.tmp 5) (.tmp 28) rfl P5 VX rfl rfl 29 _ HT.out G26.out.iF (by rw [G26.out.z3]; rfl) G26.out.o3 ?_)
    refine pieceEnd_normal ⟨setRow_other _ _ _ _ (by have := HPW.out; omega), ?_⟩
    replace HA1 : Hid (IRow (u15.setRow P5 VX) Pa1 pn1 pc1 SS.list) := Lib.hid (Row.keep HA1.out fun ad hA _ _ => setRow_other _ _ _ _ (NA1.out ad hA)); replace HP1 : Hid (PRow (u15.setRow P5 VX) Pb1 pm1 pk1 SS.pins) := Lib.hid (Row.keep HP1.out fun ad hA _ _ => setRow_other _ _ _ _ (NB1.out ad hA))
    replace HA2 : Hid (IRow (u15.setRow P5 VX) Pa2 pn2 pc2 ST.list) := Lib.hid (Row.keep HA2.out fun ad hA _ _ => setRow_other _ _ _ _ (NA2.out ad hA)); replace HP2 : Hid (PRow (u15.setRow P5 VX) Pb2 pm2 pk2 ST.pins) := Lib.hid (Row.keep HP2.out fun ad hA _ _ => setRow_other _ _ _ _ (NB2.out ad hA))
    replace HX := Lib.hid ((setRow_other u15 P5 w.heap.size VX (by have := HPW.out; omega)).trans HX.out)
    replace HB := Lib.hid (below_setRow HB.out (Nat.le_of_lt HPW.out) VX)
    replace HZ : Hid (w.heap.size < (u15.setRow P5 VX).heap.size) := Lib.hid (by rw [setRow_size]; exact HZ.out)
    replace HT := Lib.hid (setRow_heap u15 P5 _ VX _ _ HT.out)
    generalize u15.setRow P5 VX = u17 at *
    refine flow_done (by kernel_rfl) ?_
    go_wp2_with fail
    refine (HAW.out _ HB.out).mono ?_
    rintro e v1 ⟨rfl, hb⟩
    replace HX := Lib.hid ((hb.block _ HZ.out).trans HX.out); replace HB := Lib.hid (HB.out.trans (hb.mono HB.out.size)); replace HZ : Hid (w.heap.size < v1.heap.size) := Lib.hid (Nat.lt_of_lt_of_le HZ.out hb.size)
    replace HA1 := Lib.hid (HA1.out.later hb); replace HP1 := Lib.hid (HP1.out.later hb)
    replace HA2 := Lib.hid (HA2.out.later hb); replace HP2 := Lib.hid (HP2.out.later hb)
    replace HT := Lib.hid ((hb.block _ (Array.getElem?_eq_some_iff.1 HT.out).1).trans HT.out)
    clear hb
    go_wp2_with (refine wpList_load_rowG rfl 29 (.tmp 2) rfl w.heap.size rfl 29 VA (0, 0) _ HX.out Tryz.underlying29 rfl H26.out.iF ?_)
    refine (HAG.out _ HB.out).mono ?_
    rintro e v2 ⟨rfl, hb⟩
    replace HX := Lib.hid ((hb.block _ HZ.out).trans HX.out); replace HB := Lib.hid (HB.out.trans (hb.mono HB.out.size)); replace HZ : Hid (w.heap.size < v2.heap.size) := Lib.hid (Nat.lt_of_lt_of_le HZ.out hb.size)
    replace HA1 := Lib.hid (HA1.out.later hb); replace HP1 := Lib.hid (HP1.out.later hb)
    replace HA2 := Lib.hid (HA2.out.later hb); replace HP2 := Lib.hid (HP2.out.later hb)
    replace HT := Lib.hid ((hb.block _ (Array.getElem?_eq_some_iff.1 HT.out).1).trans HT.out)
    clear hb
    go_wp2_with (refine wpList_load_rowG rfl 29 (.tmp 5) rfl P5 rfl 29 VX (0, 0) _ HT.out Tryz.underlying29 rfl G26.out.iF ?_)
    have hag := HAG2.out _ HB.out _ _ _ _ _ _ _ _ _ _ _ _ HA1.out HP1.out HA2.out HP2.out
    rw [HFV.out] at hag
    refine hag.mono ?_
    rintro e v3 ⟨rfl, hb⟩
    replace HB := Lib.hid (HB.out.trans (hb.mono HB.out.size)); clear hb hag
    go_wp2_with fail
    go_ret
    exact ⟨rfl, HB.out⟩
end Go.Proofs.YtkglgboncngpbaaGreatDoor
/- What a law's arguments are as rows of cells; what is asked of them behind the call. Plain facts over any program. -/
namespace Go.Proofs.YtkglgboncngpbaaGreatDoor
open Go.ChangeShapes Go.WideShapes Go.ChangeAt Go.RowKit
section
variable {H : Type} {enc : TypeId × Value → H} {P : Program} {W W' : World}
/-- A slice of numbers of one kind that came in. -/
theorem open_nums {t e : TypeId} {k : IntKind} (ht : P.underlying t = some (.slice e)) (he : P.underlying e = some (.int k)) (hc : P.cellsOf e = 1) {base : Nat} {v : Value} {d : DataW H} {p : List MemPlace}
    (hval : Value.okWide P W .any base t v) (h : DataW.Trod enc P W 0 (fun _ => true) true t v d p) :
    ∃ (A : Option Addr) (n c : Nat) (zs : List Int), v = .slice A n c ∧ zs.length = n ∧ Row W A n c 1 (zs.map (Value.int k)) ∧ c ≤ maxLen ∧ ∀ z ∈ zs, (Lit.int k z).wf = true := by
  obtain ⟨a1, len, cap, rfl⟩ := okWide_slice ht hval
  obtain ⟨fuel, hf⟩ := h
  rcases open_ints ht he hc hf with ⟨hcs, hx⟩ | ⟨a, len', cap', zs, hcs, _, hl, hm, hz, hx, hcell, hwz⟩
  · simp [Value.cells] at hcs
    obtain ⟨rfl, rfl, rfl⟩ := hcs
    exact ⟨none, 0, 0, [], rfl, rfl, Row.nilRow _ _, Nat.zero_le _, fun _ h => by cases h⟩
  · simp [Value.cells] at hcs
    obtain ⟨rfl, rfl, rfl⟩ := hcs
    simp only [if_true] at hz
    refine ⟨some a, len, cap, zs.take len, rfl, by rw [List.length_take]; omega, ⟨by simp; omega, hl, fun e => (by cases e), fun ad e h0 => ?_⟩, hm, fun z hz' => hwz z (List.mem_of_mem_take hz')⟩
    injection e with e; subst e
    obtain ⟨ab, ao, spot⟩ := a
    have hspot : spot = none := by simpa [Addr.add] using World.cell?_spot (hcell 0 (by omega))
    subst hspot
    refine ⟨ab, ao, rfl, fun i hi => ?_⟩
    rw [Nat.mul_one] at hi
    have := hcell i (by omega)
    rw [Addr.add_lit] at this
    rw [this, List.getElem?_map, List.getElem?_take, if_pos hi, List.getElem?_eq_getElem (by omega)]
    simp [show i < zs.length by omega]
theorem bytes_of {zs : List Int} (h : ∀ z ∈ zs, (Lit.int .u8 z).wf = true) : zs.map (Value.int .u8) = bytesV (zs.map fun z => UInt8.ofNat z.toNat) := by
  unfold bytesV
  rw [List.map_map]
  apply List.map_congr_left
  intro z hz
  have := bounds_u8 (h z hz)
  simp only [Function.comp_apply, bv, w8, UInt8.toNat_ofNat']
  congr 1
  omega
/-- A slice of bytes, of ints, that came in. -/
theorem open_u8s {t e : TypeId} (ht : P.underlying t = some (.slice e)) (he : P.underlying e = some (.int .u8)) (hc : P.cellsOf e = 1) {base : Nat} {v : Value} {d : DataW H} {p : List MemPlace}
    (hval : Value.okWide P W .any base t v) (h : DataW.Trod enc P W 0 (fun _ => true) true t v d p) : ∃ (A : Option Addr) (n c : Nat) (us : List UInt8), v = .slice A n c ∧ Row W A n c 1 (bytesV us) ∧ c ≤ maxLen := by
  obtain ⟨A, n, c, zs, rfl, _, hr, hm, hw⟩ := open_nums ht he hc hval h
  rw [bytes_of hw] at hr
  exact ⟨A, n, c, _, rfl, hr, hm⟩
theorem open_i64s {t e : TypeId} (ht : P.underlying t = some (.slice e)) (he : P.underlying e = some (.int .i64)) (hc : P.cellsOf e = 1) {base : Nat} {v : Value} {d : DataW H} {p : List MemPlace}
    (hval : Value.okWide P W .any base t v) (h : DataW.Trod enc P W 0 (fun _ => true) true t v d p) : ∃ (A : Option Addr) (n c : Nat) (l : List Int), v = .slice A n c ∧ Row W A n c 1 (intsV l) ∧ c ≤ maxLen ∧ ∀ z ∈ l, -9223372036854775808 ≤ z ∧ z ≤ 9223372036854775807 := by
  obtain ⟨A, n, c, zs, rfl, _, hr, hm, hw⟩ := open_nums ht he hc hval h
  exact ⟨A, n, c, zs, rfl, hr, hm, fun z hz => bounds_i64 (hw z hz)⟩
theorem trodAll_below (hl : laidOutB P = true) (hb : Below W.heap.size W W') : ∀ {ts : List TypeId} {vs : List Value} {ds : List (DataW H)} {ps : List MemPlace}, (ts.all fun t => P.readableRec t && decide (t < P.types.size)) = true →
    DataW.TrodAll enc P W 0 (fun _ => true) true ts vs ds ps → DataW.TrodAll enc P W' 0 (fun b => decide (b < W.heap.size)) true ts vs ds ps
  | [], [], [], _, _, h => h
  | t :: ts, v :: vs, d :: ds, ps, hB, h => by
    have hlt := DataW.TrodAll.lt h
    obtain ⟨a, b, h1, h2, e⟩ := h
    simp only [List.all_cons, Bool.and_eq_true, decide_eq_true_eq] at hB
    subst e
    exact ⟨a, b, Below.trod hl hB.1.1 hB.1.2 h1 hb (fun x hx => hlt x (List.mem_append_left _ hx)), trodAll_below hl hb (by simpa using hB.2) h2, rfl⟩
/-- Behind a law that answered true and left below the old heap all as it was. -/
theorem law_post {f : Func} {s : ChangeSpec} {tb : TypeId} (hl : laidOutB P = true) (hres : f.resultTypes = #[tb]) (htb : P.underlying tb = some .bool) (hts : (f.params.toList.all fun t => P.readableRec t && decide (t < P.types.size)) = true) (hv : s.vars = [])
    {args : Array Value} {ds gs : List (DataW H)} {before : List MemPlace} (hW : DataW.Whole enc P f.params.toList s.vars false W args.toList ds gs before) (hfn : s.fn H (ds ++ gs) = { results := [.lit (.bool true)], args := ds }) (hb : Below W.heap.size W W') :
    ∃ v, Ending.returned (.bool true) = Ending.returned v ∧ s.post enc P f false true false false W args v W' := by
  have hW' := hW
  obtain ⟨p, q, hA, hV, rfl, _, _⟩ := hW
  refine ⟨_, rfl, ds, gs, _, [], p, [], hW', ?_, ?_, ?_, hb.frame _, fun h => by cases h⟩
  · rw [hfn, hres]; exact trodAll_mk1 (shut_bool htb _)
  · rw [hfn]; exact trodAll_below hl hb hts hA
  · rw [hfn, hv]; exact rfl
end
end Go.Proofs.YtkglgboncngpbaaGreatDoor
