/- The walk of digest.mix. -/
import Derived.Test.YtnjilfdmplbalaaGreatDoorSched
namespace Go.Proofs.YtnjilfdmplbalaaGreatDoor
open Go.RowKit
/-- A state as the cells of its array. -/
def stV (s : Sha.St) : Array Value := #[.int .u32 (w32 s.a), .int .u32 (w32 s.b), .int .u32 (w32 s.c), .int .u32 (w32 s.d), .int .u32 (w32 s.e), .int .u32 (w32 s.f), .int .u32 (w32 s.g), .int .u32 (w32 s.h)]
theorem stV_size (s : Sha.St) : (stV s).size = 8 := rfl
theorem stV_one (s : Sha.St) : (stV s).all (·.oneCell') = true := by simp [stV, Value.oneCell']
/-- The table of the rounds holds the constants. -/
def Rounds (w : World) : Prop := ∀ i, i < 64 → w.cell? ⟨1, i, none⟩ = some (.int .u32 (w32 (Sha.kAt i)))
theorem Rounds.lt {w : World} (h : Rounds w) : 1 < w.heap.size := block_lt_of_cell (h 0 (by omega))
theorem Rounds.below {B : Nat} {w w' : World} (h : Rounds w) (hb : Below B w w') (hB : 1 < B) : Rounds w' := fun i hi => (hb.cell (p := ⟨1, i, none⟩) hB).trans (h i hi)
/-- What holds of the world when digest.mix has laid its words. -/
structure MixW (w W : World) (g : Nat) (s : Sha.St) (ws : List UInt32) : Prop where
  box : W.heap[w.heap.size]? = some (.cells (stV s) 145 (0, 0))
  out : ∃ z, W.heap[w.heap.size + 1]? = some (.cells z 145 (0, 0)) ∧ z.size = 8
  words : W.heap[g]? = some (.cells (cellsW ws 64) 154 (0, 0))
  below : Below w.heap.size w W
theorem MixW.drewN {w W : World} {g : Nat} {s : Sha.St} {ws : List UInt32} (h : MixW w W g s ws) (n : Nat) : MixW w (W.drewN n) g s ws :=
  ⟨h.box, h.out, h.words, ⟨h.below.os, h.below.tape, h.below.output, h.below.size, h.below.block⟩⟩
theorem wpList_any {P : Program} {ops : Array Oper} {rest : List Oper} {a : Act} {Q : Exit → Act → World → Prop} {W0 : World} (R : World → Prop) (h0 : R W0) (h : ∀ W, R W → wpList P ops Q rest a W) : wpList P ops Q rest a W0 := h W0 h0
theorem MixW.mk' {w w2 : World} {s : Sha.St} {ws : List UInt32} {Z : Array Value} (h2 : w.heap.size + 2 ≤ w2.heap.size)
    (hx : w2.heap[w.heap.size]? = some (.cells (stV s) 145 (0, 0))) (ho : ∃ z, w2.heap[w.heap.size + 1]? = some (.cells z 145 (0, 0)) ∧ z.size = 8)
    (hb : Below w.heap.size w w2) {C : Array Value} (hC : C = cellsW ws 64) : MixW w ((w2.alloc (.cells Z 154)).setRow w2.heap.size C) w2.heap.size s ws := by
  subst hC
  refine ⟨?_, ?_, ?_, ?_⟩
  · rw [setRow_other _ _ _ _ (by omega), Below.heap_alloc _ _ _ (by omega)]; exact hx
  · obtain ⟨z, hz, hl⟩ := ho
    exact ⟨z, by rw [setRow_other _ _ _ _ (by omega), Below.heap_alloc _ _ _ (by omega)]; exact hz, hl⟩
  · exact setRow_heap _ _ _ _ _ _ (heap_alloc_new _ _)
  · exact below_setRow (hb.alloc (by omega) _) (by omega) _
set_option maxRecDepth 100000 in
set_option maxHeartbeats 1000000 in
theorem mix_any (b off n c : Nat) (s : Sha.St) (bs : Nat → UInt8) (w : World) (hn : 64 ≤ n) (hn2 : n ≤ 4000000) (hb : b < w.heap.size)
    (hc : ∀ i, i < 64 → w.cell? ⟨b, off + i, none⟩ = some (.int .u8 (w8 (bs i)))) (hr : Rounds w) :
    Calls Tryz.prog 140 #[.agg (stV s), .slice (some ⟨b, off, none⟩) n c] w fun e w' =>
      e = .returned (.agg (stV (Sha.mixF s bs))) ∧ Below w.heap.size w w' := by
  have HC := Lib.hid hc; clear hc
  have HR := Lib.hid hr; clear hr
  unfold stV
  go_enter Tryz.func140, Tryz.ntmps140
  go_wp2_with fail
  refine (sched_any b off n c bs _ hn hn2 (by simp; omega) (fun i hi => ?_)).mono ?_
  · have := HC.out i hi
    go_simp
  rintro e w2 ⟨rfl, hb2⟩
  have hx : w2.heap[w.heap.size]? = some (.cells (stV s) 145 (0, 0)) := (hb2.block w.heap.size (by simp; omega)).trans (heap_alloc2_old _ _ _)
  have ho : ∃ z, w2.heap[w.heap.size + 1]? = some (.cells z 145 (0, 0)) ∧ z.size = 8 := ⟨_, (hb2.block (w.heap.size + 1) (by simp)).trans (heap_alloc2_new _ _ _), rfl⟩
  have h2 : w.heap.size + 2 ≤ w2.heap.size := by have := hb2.size; simp at this; omega
  have hbw : Below w.heap.size w w2 := (((Below.refl _ _).alloc (Nat.le_refl _) _).alloc (by simp) _).trans (hb2.mono (by simp; omega))
  clear hb2
  have HX := Lib.hid hx; have HO := Lib.hid ho; have HB := Lib.hid hbw; clear hx ho hbw
  have hsz : (cellsW (Sha.sched bs) 64).size = 64 := cellsW_size _ _ (by rw [Sha.sched, Sha.schedTo_len]; omega)
  have hone := cellsW_one (Sha.sched bs) 64
  obtain ⟨C, hC⟩ : ∃ C, C = cellsW (Sha.sched bs) 64 := ⟨_, rfl⟩
  rw [← hC] at hsz hone ⊢
  have HE := Lib.hid hC; have HZ := Lib.hid hsz; have H1 := Lib.hid hone; clear hC hsz hone
  go_wp2_with (refine wpList_store_row rfl 154 (.tmp 5) (.tmp 21) rfl w2.heap.size C rfl rfl 154 _ (heap_alloc_new _ _) (by rw [HZ.out]; kernel_rfl) (by rw [HZ.out]; rfl) H1.out ?_
               refine wpList_any (fun W => Hid (MixW w W w2.heap.size s (Sha.sched bs))) (MixW.mk' h2 HX.out HO.out HB.out HE.out) (fun W3 HM => ?_))
  have b0 : W3.cell? ⟨w.heap.size, 0, none⟩ = some (.int .u32 (w32 s.a)) := cell_of_row _ _ 0 _ _ _ HM.out.box
  have b1 : W3.cell? ⟨w.heap.size, 1, none⟩ = some (.int .u32 (w32 s.b)) := cell_of_row _ _ 1 _ _ _ HM.out.box
  have b2 : W3.cell? ⟨w.heap.size, 2, none⟩ = some (.int .u32 (w32 s.c)) := cell_of_row _ _ 2 _ _ _ HM.out.box
  have b3 : W3.cell? ⟨w.heap.size, 3, none⟩ = some (.int .u32 (w32 s.d)) := cell_of_row _ _ 3 _ _ _ HM.out.box
  have b4 : W3.cell? ⟨w.heap.size, 4, none⟩ = some (.int .u32 (w32 s.e)) := cell_of_row _ _ 4 _ _ _ HM.out.box
  have b5 : W3.cell? ⟨w.heap.size, 5, none⟩ = some (.int .u32 (w32 s.f)) := cell_of_row _ _ 5 _ _ _ HM.out.box
  have b6 : W3.cell? ⟨w.heap.size, 6, none⟩ = some (.int .u32 (w32 s.g)) := cell_of_row _ _ 6 _ _ _ HM.out.box
  have b7 : W3.cell? ⟨w.heap.size, 7, none⟩ = some (.int .u32 (w32 s.h)) := cell_of_row _ _ 7 _ _ _ HM.out.box
  go_quiet (fail)
  go_wp2
  clear b0 b1 b2 b3 b4 b5 b6 b7
  go_loopw [6, 7, 8, 9, 10, 11, 12, 13, 38]
    (fun a b c d e f g h i wr => ∃ k : Nat, k ≤ 64 ∧ i = .int .i64 k ∧ Hid (MixW w wr w2.heap.size s (Sha.sched bs)) ∧ ∃ t : Sha.St, Hid (t = Sha.rounds (Sha.sched bs) k s) ∧
      a = .int .u32 (w32 t.a) ∧ b = .int .u32 (w32 t.b) ∧ c = .int .u32 (w32 t.c) ∧ d = .int .u32 (w32 t.d) ∧ e = .int .u32 (w32 t.e) ∧ f = .int .u32 (w32 t.f) ∧ g = .int .u32 (w32 t.g) ∧ h = .int .u32 (w32 t.h))
    (fun _ _ _ _ _ _ _ _ i _ => 64 - (intOf i).toNat)
  case atStart => exact ⟨0, by omega, rfl, HM.out.drewN _, s, rfl, rfl, rfl, rfl, rfl, rfl, rfl, rfl, rfl⟩
  case round =>
    obtain ⟨k, hk, rfl, HW, t, HT, rfl, rfl, rfl, rfl, rfl, rfl, rfl, rfl⟩ := hrel
    by_cases hlt : k < 64
    · have ck : wr.cell? ⟨1, k, none⟩ = some (.int .u32 (w32 (Sha.kAt k))) := (HR.out.below HW.out.below HR.out.lt) k hlt
      have cw : wr.cell? ⟨w2.heap.size, k, none⟩ = some (.int .u32 (w32 (Sha.at_ (Sha.sched bs) k))) := by
        rw [cell_of_row _ _ _ _ _ _ HW.out.words, cellsW_get _ _ _ (by rw [Sha.sched, Sha.schedTo_len]; omega)]
      have p4 : (k : Int) < 64 := by omega
      go_wp2_with (go_at_call 149; refine (rot_any _ _ (by decide) _).mono ?_; rintro e w' ⟨rfl, rfl⟩)
      go_quiet (fail)
      go_wp2
      go_roundw
      case rel =>
        have hrs := Sha.rounds_succ HT.out
        rw [Sha.round_eq] at hrs
        exact ⟨k + 1, by omega, by go_num, Lib.hid (HW.out.drewN _), _, Lib.hid hrs, rfl, rfl, rfl, rfl, rfl, rfl, rfl, rfl⟩
      case measure => simp [intOf]; omega
    · have HK : Hid (k = 64) := by unfold Hid; omega
      have b0 : wr.cell? ⟨w.heap.size, 0, none⟩ = some (.int .u32 (w32 s.a)) := cell_of_row _ _ 0 _ _ _ HW.out.box
      have b1 : wr.cell? ⟨w.heap.size, 1, none⟩ = some (.int .u32 (w32 s.b)) := cell_of_row _ _ 1 _ _ _ HW.out.box
      have b2 : wr.cell? ⟨w.heap.size, 2, none⟩ = some (.int .u32 (w32 s.c)) := cell_of_row _ _ 2 _ _ _ HW.out.box
      have b3 : wr.cell? ⟨w.heap.size, 3, none⟩ = some (.int .u32 (w32 s.d)) := cell_of_row _ _ 3 _ _ _ HW.out.box
      have b4 : wr.cell? ⟨w.heap.size, 4, none⟩ = some (.int .u32 (w32 s.e)) := cell_of_row _ _ 4 _ _ _ HW.out.box
      have b5 : wr.cell? ⟨w.heap.size, 5, none⟩ = some (.int .u32 (w32 s.f)) := cell_of_row _ _ 5 _ _ _ HW.out.box
      have b6 : wr.cell? ⟨w.heap.size, 6, none⟩ = some (.int .u32 (w32 s.g)) := cell_of_row _ _ 6 _ _ _ HW.out.box
      have b7 : wr.cell? ⟨w.heap.size, 7, none⟩ = some (.int .u32 (w32 s.h)) := cell_of_row _ _ 7 _ _ _ HW.out.box
      obtain ⟨z, hz, hz8⟩ := HW.out.out
      have HQ := Lib.hid hz; have HQ8 := Lib.hid hz8; clear hz hz8
      go_wp2_with (refine wpList_store_row rfl 145 (.tmp 4) (.tmp 136) rfl (w.heap.size + 1) (stV (Sha.addS s t)) rfl rfl 145 z HQ.out (by kernel_rfl) (by rw [HQ8.out]; rfl) (stV_one _) ?_)
      refine bodyPost_ret (v := .agg (stV (Sha.addS s t))) (results_cell_row rfl _ _ (w.heap.size + 1) 145 (stV (Sha.addS s t)) (0, 0) _ rfl (setRow_heap _ _ _ _ _ _ HQ.out) Tryz.underlying145 rfl (by kernel_rfl)) rfl
        ⟨by rw [HT.out, HK.out]; rfl, below_setRow HW.out.below (by omega) _⟩
end Go.Proofs.YtnjilfdmplbalaaGreatDoor
