/- The walk of digest.schedule. -/
import Derived.Test.YtnjilfdmplbalaaGreatDoorRot
import Derived.Test.YtnjilfdmplbalaaGreatDoorSha
import Derived.StillTailTactics
import Derived.Deep.QuietTactic
import Derived.BigQuiet
import Derived.BigRegion
import Derived.Outline
import Derived.Lib.Hide
import Derived.Laws.Rows
namespace Go.Proofs.YtnjilfdmplbalaaGreatDoor
open Go.RowKit
/-- What holds while digest.schedule lays its words: block g holds the words of l, block g0 nothing yet, and below g0 nothing has changed. -/
def SchedInv (w wr : World) (l : List UInt32) : Prop :=
  wr.heap[w.heap.size + 1]? = some (.cells (cellsW l 64) 154 (0, 0)) ∧ wr.heap[w.heap.size]? = some (.cells (cellsW [] 64) 154 (0, 0)) ∧ Below w.heap.size w wr
theorem SchedInv.set {w wr : World} {l : List UInt32} (h : SchedInv w wr l) {k : Nat} (hk : k = l.length) (x : UInt32) (hl : k < 64) :
    SchedInv w (wr.setCell ⟨w.heap.size + 1, k, none⟩ (.int .u32 (w32 x))) (l ++ [x]) := by
  subst hk
  obtain ⟨h1, h2, h3⟩ := h
  refine ⟨?_, ?_, h3.setCell (by simp) _⟩
  · rw [heap_setCell_same _ _ _ _ _ _ h1, cellsW_push _ _ _ hl]
  · rw [heap_setCell_other _ _ _ _ (by simp)]; exact h2
theorem SchedInv.drew {w wr : World} {l : List UInt32} (h : SchedInv w wr l) : SchedInv w wr.drew l := ⟨h.1, h.2.1, h.2.2.drew⟩
theorem SchedInv.drewN {w wr : World} {l : List UInt32} (h : SchedInv w wr l) (n : Nat) : SchedInv w (wr.drewN n) l := ⟨h.1, h.2.1, ⟨h.2.2.os, h.2.2.tape, h.2.2.output, h.2.2.size, h.2.2.block⟩⟩
theorem SchedInv.start (w : World) : SchedInv w ((w.alloc (.cells (cellsW [] 64) 154)).alloc (.cells (cellsW [] 64) 154)) [] :=
  ⟨heap_alloc2_new _ _ _, heap_alloc2_old _ _ _, ((Below.refl _ _).alloc (Nat.le_refl _) _).alloc (by simp) _⟩
set_option maxRecDepth 100000 in
set_option maxHeartbeats 400000 in
theorem sched_any (b off n c : Nat) (bs : Nat → UInt8) (w : World) (hn : 64 ≤ n) (hn2 : n ≤ 4000000) (hb : b < w.heap.size)
    (hc : ∀ i, i < 64 → w.cell? ⟨b, off + i, none⟩ = some (.int .u8 (w8 (bs i)))) :
    Calls Tryz.prog 148 #[.slice (some ⟨b, off, none⟩) n c] w fun e w' =>
      e = .returned (.agg (cellsW (Sha.sched bs) 64)) ∧ Below w.heap.size w w' := by
  have HC := Lib.hid hc; clear hc
  go_enter Tryz.func148, Tryz.ntmps148
  go_wp2
  go_loopw [10] (fun i wr => ∃ k : Nat, k ≤ 16 ∧ i = .int .i64 k ∧ SchedInv w wr (Sha.firsts bs k)) (fun i _ => 16 - (intOf i).toNat)
  case atStart => exact ⟨0, by omega, rfl, SchedInv.start w⟩
  case round =>
    obtain ⟨k, hk, rfl, hinv⟩ := hrel
    by_cases hlt : k < 16
    · have c0 : wr.cell? ⟨b, off + 4 * k, none⟩ = some (.int .u8 (w8 (bs (4 * k)))) := (hinv.2.2.cell (p := ⟨b, off + 4 * k, none⟩) hb).trans (HC.out _ (by omega))
      have c1 : wr.cell? ⟨b, off + (4 * k + 1), none⟩ = some (.int .u8 (w8 (bs (4 * k + 1)))) := (hinv.2.2.cell (p := ⟨b, off + (4 * k + 1), none⟩) hb).trans (HC.out _ (by omega))
      have c2 : wr.cell? ⟨b, off + (4 * k + 2), none⟩ = some (.int .u8 (w8 (bs (4 * k + 2)))) := (hinv.2.2.cell (p := ⟨b, off + (4 * k + 2), none⟩) hb).trans (HC.out _ (by omega))
      have c3 : wr.cell? ⟨b, off + (4 * k + 3), none⟩ = some (.int .u8 (w8 (bs (4 * k + 3)))) := (hinv.2.2.cell (p := ⟨b, off + (4 * k + 3), none⟩) hb).trans (HC.out _ (by omega))
      have hf : wr.frozen? ⟨w.heap.size + 1, k, none⟩ = false := frozen_of_row _ _ _ _ _ hinv.1
      have hs : wr.cell? ⟨w.heap.size + 1, k, none⟩ = some (.int .u32 0) := by rw [cell_of_row _ _ _ _ _ _ hinv.1, cellsW_rest _ _ _ (by rw [Sha.firsts_len]; omega) (by omega)]
      have HI := Lib.hid hinv; clear hinv
      go_wp2
      have e0 : IntKind.i64.wrap (4 * (k : Int)) = 4 * (k : Int) := IntWalk.i64_in _ (by omega)
      have e1 : IntKind.i64.wrap (4 * (k : Int) + 1) = 4 * (k : Int) + 1 := IntWalk.i64_in _ (by omega)
      have e2 : IntKind.i64.wrap (4 * (k : Int) + 2) = 4 * (k : Int) + 2 := IntWalk.i64_in _ (by omega)
      have e3 : IntKind.i64.wrap (4 * (k : Int) + 3) = 4 * (k : Int) + 3 := IntWalk.i64_in _ (by omega)
      have t0 : (4 * (k : Int)).toNat = 4 * k := by omega
      have t1 : (4 * (k : Int) + 1).toNat = 4 * k + 1 := by omega
      have t2 : (4 * (k : Int) + 2).toNat = 4 * k + 2 := by omega
      have t3 : (4 * (k : Int) + 3).toNat = 4 * k + 3 := by omega
      have p0 : 0 ≤ 4 * (k : Int) ∧ 4 * (k : Int) < n := by omega
      have p1 : 0 ≤ 4 * (k : Int) + 1 ∧ 4 * (k : Int) + 1 < n := by omega
      have p2 : 0 ≤ 4 * (k : Int) + 2 ∧ 4 * (k : Int) + 2 < n := by omega
      have p3 : 0 ≤ 4 * (k : Int) + 3 ∧ 4 * (k : Int) + 3 < n := by omega
      have p4 : (k : Int) < 64 := by omega
      go_still_tail 35, (by kernel_rfl)
      change wpList _ _ _ _ _ wr.drew
      clear c0 c1 c2 c3 e0 e1 e2 e3 t0 t1 t2 t3 p0 p1 p2 p3 p4
      go_wp2
      go_roundw
      case rel => exact ⟨k + 1, by omega, by go_num, by rw [Sha.firsts_succ]; exact HI.out.drew.set (Sha.firsts_len bs k).symm _ (by omega)⟩
      case measure => simp [intOf]; omega
    · have HK : Hid (k = 16) := by unfold Hid; omega
      have HI := Lib.hid hinv; clear hinv
      go_wp2
      obtain ⟨wo, hwo⟩ : ∃ wo : World, wo = wr := ⟨_, rfl⟩
      subst hwo
      go_loopw [5] (fun i wr => ∃ j : Nat, 16 ≤ j ∧ j ≤ 64 ∧ i = .int .i64 j ∧ SchedInv w wr (Sha.schedTo bs (j - 16))) (fun i _ => 64 - (intOf i).toNat)
      case atStart => exact ⟨16, by omega, by omega, rfl, by have h := HI.out; rw [HK.out] at h; exact h⟩
      case round =>
        obtain ⟨j, hj1, hj2, rfl, hinv⟩ := hrel
        by_cases hlt : j < 64
        · have hlen := Sha.schedTo_len bs (j - 16)
          obtain ⟨l, hl⟩ : ∃ l, l = Sha.schedTo bs (j - 16) := ⟨_, rfl⟩
          rw [← hl] at hinv hlen
          have hlen2 : l.length = j := by omega
          have c2 : wr.cell? ⟨w.heap.size + 1, j - 2, none⟩ = some (.int .u32 (w32 (Sha.at_ l (j - 2)))) := by rw [cell_of_row _ _ _ _ _ _ hinv.1, cellsW_get _ _ _ (by omega)]
          have c7 : wr.cell? ⟨w.heap.size + 1, j - 7, none⟩ = some (.int .u32 (w32 (Sha.at_ l (j - 7)))) := by rw [cell_of_row _ _ _ _ _ _ hinv.1, cellsW_get _ _ _ (by omega)]
          have c15 : wr.cell? ⟨w.heap.size + 1, j - 15, none⟩ = some (.int .u32 (w32 (Sha.at_ l (j - 15)))) := by rw [cell_of_row _ _ _ _ _ _ hinv.1, cellsW_get _ _ _ (by omega)]
          have c16 : wr.cell? ⟨w.heap.size + 1, j - 16, none⟩ = some (.int .u32 (w32 (Sha.at_ l (j - 16)))) := by rw [cell_of_row _ _ _ _ _ _ hinv.1, cellsW_get _ _ _ (by omega)]
          have hf : wr.frozen? ⟨w.heap.size + 1, j, none⟩ = false := frozen_of_row _ _ _ _ _ hinv.1
          have hs : wr.cell? ⟨w.heap.size + 1, j, none⟩ = some (.int .u32 0) := by rw [cell_of_row _ _ _ _ _ _ hinv.1, cellsW_rest _ _ _ (by omega) (by omega)]
          have HI := Lib.hid hinv; clear hinv
          have HL := Lib.hid hl; clear hl
          have HN := Lib.hid hlen2; clear hlen2 hlen
          have e2 : IntKind.i64.wrap ((j : Int) - 2) = (j : Int) - 2 := IntWalk.i64_in _ (by omega)
          have e7 : IntKind.i64.wrap ((j : Int) - 7) = (j : Int) - 7 := IntWalk.i64_in _ (by omega)
          have e15 : IntKind.i64.wrap ((j : Int) - 15) = (j : Int) - 15 := IntWalk.i64_in _ (by omega)
          have e16 : IntKind.i64.wrap ((j : Int) - 16) = (j : Int) - 16 := IntWalk.i64_in _ (by omega)
          have t2 : ((j : Int) - 2).toNat = j - 2 := by omega
          have t7 : ((j : Int) - 7).toNat = j - 7 := by omega
          have t15 : ((j : Int) - 15).toNat = j - 15 := by omega
          have t16 : ((j : Int) - 16).toNat = j - 16 := by omega
          have p2 : (2 : Int) ≤ (j : Int) := by omega
          have q2 : (j : Int) - 2 < 64 := by omega
          have p7 : (7 : Int) ≤ (j : Int) := by omega
          have q7 : (j : Int) - 7 < 64 := by omega
          have p15 : (15 : Int) ≤ (j : Int) := by omega
          have q15 : (j : Int) - 15 < 64 := by omega
          have p16 : (16 : Int) ≤ (j : Int) := by omega
          have q16 : (j : Int) - 16 < 64 := by omega
          have p4 : (j : Int) < 64 := by omega
          go_wp2
          go_quiet (fail)
          clear c2 c15 e2 e15 t2 t15 p2 p15 q2 q15
          go_wp2_with (go_at_call 149; refine (rot_any _ _ (by decide) _).mono ?_; rintro e w' ⟨rfl, rfl⟩)
          have d7 : (wr.drewN nq).cell? ⟨w.heap.size + 1, j - 7, none⟩ = some (.int .u32 (w32 (Sha.at_ l (j - 7)))) := c7
          have d16 : (wr.drewN nq).cell? ⟨w.heap.size + 1, j - 16, none⟩ = some (.int .u32 (w32 (Sha.at_ l (j - 16)))) := c16
          have df : (wr.drewN nq).frozen? ⟨w.heap.size + 1, j, none⟩ = false := hf
          have ds : (wr.drewN nq).cell? ⟨w.heap.size + 1, j, none⟩ = some (.int .u32 0) := hs
          have HJ := Lib.hid (HI.out.drewN nq)
          clear c7 c16 hf hs HI
          generalize wr.drewN nq = wq at d7 d16 df ds HJ ⊢
          go_still_tail 15, (by kernel_rfl)
          change wpList _ _ _ _ _ wq.drew
          clear d7 d16 e7 e16 t7 t16 p7 p16 q7 q16 p4
          go_wp2
          go_roundw
          case rel =>
            refine ⟨j + 1, by omega, by omega, by go_num, ?_⟩
            rw [show j + 1 - 16 = (j - 16) + 1 by omega, Sha.schedTo, ← HL.out, Sha.nextW, HN.out]
            exact HJ.out.drew.set HN.out.symm _ (by omega)
          case measure => simp [intOf]; omega
        · obtain rfl : j = 64 := by omega
          obtain ⟨hi1, hi2, hi3⟩ := hinv
          have HI3 := Lib.hid hi3; clear hi3 hlt hj1 hj2
          have hsz : (cellsW (Sha.schedTo bs (64 - 16)) 64).size = 64 := cellsW_size _ _ (by rw [Sha.schedTo_len]; omega)
          have hsz0 : (cellsW [] 64).size = 64 := cellsW_size _ _ (by simp)
          have hone := cellsW_one (Sha.schedTo bs (64 - 16)) 64
          obtain ⟨C, hC⟩ : ∃ C, C = cellsW (Sha.schedTo bs (64 - 16)) 64 := ⟨_, rfl⟩
          rw [← hC] at hi1 hsz hone
          obtain ⟨D, hD⟩ : ∃ D, D = cellsW [] 64 := ⟨_, rfl⟩
          rw [← hD] at hi2 hsz0
          have HC := Lib.hid hC; have HD := Lib.hid hD; clear hC hD
          have HI1 := Lib.hid hi1; have HI2 := Lib.hid hi2; have HZ := Lib.hid hsz; have HZ0 := Lib.hid hsz0; have HO := Lib.hid hone
          clear hi1 hi2 hsz hsz0 hone
          go_wp2_with (first
            | refine wpList_load_row rfl 154 (.tmp 3) rfl (w.heap.size + 1) rfl 154 C (0, 0) _ HI1.out Tryz.underlying154 rfl (by rw [HZ.out]; kernel_rfl) ?_
            | refine wpList_store_row rfl 154 (.tmp 2) (.tmp 92) rfl w.heap.size C rfl rfl 154 D HI2.out (by rw [HZ.out]; kernel_rfl) (by rw [HZ0.out, HZ.out]) HO.out ?_)
          exact bodyPost_ret (v := .agg C) (results_cell_row rfl _ _ w.heap.size 154 C (0, 0) _ rfl (setRow_heap _ _ _ _ _ _ HI2.out) Tryz.underlying154 rfl (by rw [HZ.out]; kernel_rfl)) rfl
            ⟨by rw [HC.out]; rfl, below_setRow HI3.out (Nat.le_refl _) _⟩
end Go.Proofs.YtnjilfdmplbalaaGreatDoor
