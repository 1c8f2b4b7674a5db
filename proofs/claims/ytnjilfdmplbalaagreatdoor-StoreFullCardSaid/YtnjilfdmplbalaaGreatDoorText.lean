/- The walks of digest.start and digest.text. -/
import Derived.Test.YtnjilfdmplbalaaGreatDoorMix
import Derived.Test.YtnjilfdmplbalaaGreatDoorPad
namespace Go.Proofs.YtnjilfdmplbalaaGreatDoor
open Go.RowKit
namespace Sha
def toL (s : St) : List UInt32 := [s.a, s.b, s.c, s.d, s.e, s.f, s.g, s.h]
theorem toL_len (s : St) : (toL s).length = 8 := rfl
def bytes4 (x : UInt32) : List UInt8 := [(ushr x 24).toUInt8, (ushr x 16).toUInt8, (ushr x 8).toUInt8, x.toUInt8]
def textTo (l : List UInt32) : Nat → List UInt8
  | 0 => []
  | k + 1 => textTo l k ++ bytes4 (at_ l k)
theorem textTo_len (l : List UInt32) (k : Nat) : (textTo l k).length = 4 * k := by
  induction k with
  | zero => rfl
  | succ k ih => simp [textTo, ih, bytes4]; omega
/-- The first block of a list of bytes. -/
def blk (l : List UInt8) (i : Nat) : UInt8 := (l.take 64).getD i 0
theorem blk_lt (l : List UInt8) (i : Nat) (h : i < 64) : blk l i = l.getD i 0 := by
  unfold blk; simp [h]
/-- q steps over blocks of bytes, one behind the other; and what is left of the bytes. -/
def eatG (f : St → List UInt8 → St) : Nat → List UInt8 → St → St × List UInt8
  | 0, l, s => (s, l)
  | q + 1, l, s => eatG f q (l.drop 64) (f s l)
theorem eatG_zero (f : St → List UInt8 → St) (l : List UInt8) (s : St) : eatG f 0 l s = (s, l) := rfl
theorem eatG_succ (f : St → List UInt8 → St) (q : Nat) (l : List UInt8) (s : St) : eatG f (q + 1) l s = eatG f q (l.drop 64) (f s l) := rfl
/-- A block of bytes mixed into a state. -/
def mixL (s : St) (l : List UInt8) : St := mixF s (blk l)
def eat (q : Nat) (l : List UInt8) (s : St) : St × List UInt8 := eatG mixL q l s
theorem eat_zero (l : List UInt8) (s : St) : eat 0 l s = (s, l) := eatG_zero _ _ _
theorem eat_succ (q : Nat) (l : List UInt8) (s : St) : eat (q + 1) l s = eat q (l.drop 64) (mixL s l) := eatG_succ _ _ _ _
end Sha
theorem stV_cell (s : Sha.St) (k : Nat) (hk : k < 8) : (stV s)[k]? = some (.int .u32 (w32 (Sha.at_ (Sha.toL s) k))) := by
  have h : k = 0 ∨ k = 1 ∨ k = 2 ∨ k = 3 ∨ k = 4 ∨ k = 5 ∨ k = 6 ∨ k = 7 := by omega
  rcases h with rfl | rfl | rfl | rfl | rfl | rfl | rfl | rfl <;> rfl
set_option maxRecDepth 20000 in
set_option maxHeartbeats 400000 in
theorem start_any (w : World) : Calls Tryz.prog 139 #[] w fun e w' => e = .returned (.agg (stV Sha.start)) ∧ Below w.heap.size w w' := by
  go_enter Tryz.func139, Tryz.ntmps139
  go_wp2
  exact bodyPost_ret (v := .agg (stV Sha.start)) (results_cell_row rfl _ _ w.heap.size 145 (stV Sha.start) (0, 0) _ rfl (heap_alloc_new _ _) Tryz.underlying145 rfl (by kernel_rfl)) rfl
    ⟨rfl, (Below.refl _ _).alloc (Nat.le_refl _) _⟩
set_option maxRecDepth 20000 in
set_option maxHeartbeats 400000 in
theorem text_any (s : Sha.St) (w : World) : Calls Tryz.prog 142 #[.agg (stV s)] w fun e w' => e = .returned (.string (strOf (Sha.textTo (Sha.toL s) 8))) ∧ Below w.heap.size w w' := by
  unfold stV
  go_enter Tryz.func142, Tryz.ntmps142
  go_wp2_with (at_make; refine wpList_room' _ rfl (.const (.int .i64 0)) (.const (.int .i64 32)) 85 5 rfl (w.heap.size + 1) Tryz.underlying85 u8_info 32 rfl rfl rfl (by omega) (by simp) ?_; intro v1 w1 ho1 hb1; have HO1 := Lib.hid ho1; clear ho1)
  have hx : w1.heap[w.heap.size]? = some (.cells (stV s) 145 (0, 0)) := (hb1.block w.heap.size (by omega)).trans (heap_alloc_new _ _)
  have hbw : Below w.heap.size w w1 := ((Below.refl _ _).alloc (Nat.le_refl _) _).trans (hb1.mono (by omega))
  have hsz : w.heap.size + 1 ≤ w1.heap.size := by have := hb1.size; simp at this; omega
  have HX := Lib.hid hx; clear hx hb1
  go_loopw [3, 7] (fun v i wr => ∃ k : Nat, k ≤ 8 ∧ i = .int .i64 k ∧ Hid (Owns wr (w.heap.size + 1) 5 v (Sha.textTo (Sha.toL s) k)) ∧ Below (w.heap.size + 1) w1 wr) (fun _ i _ => 8 - (intOf i).toNat)
  case atStart => exact ⟨0, by omega, rfl, HO1.out, Below.refl _ _⟩
  case round =>
    obtain ⟨k, hk, rfl, HI, hb⟩ := hrel
    have hlen := Sha.textTo_len (Sha.toL s) k
    by_cases hlt : k < 8
    · have hck : wr.cell? ⟨w.heap.size, k, none⟩ = some (.int .u32 (w32 (Sha.at_ (Sha.toL s) k))) := by
        rw [cell_of_row _ _ _ _ _ _ ((hb.block w.heap.size (by omega)).trans HX.out), stV_cell s k hlt]
      have HL := Lib.hid hlen; have HB := Lib.hid hb; clear hlen hb
      have hsw : w.heap.size + 1 ≤ wr.heap.size := by have := HB.out.size; omega
      go_wp2_with (at_builtin; refine wpList_push wr rfl (.tmp 13) (.tmp 25) 85 5 rfl (w.heap.size + 1) Tryz.underlying85 u8_info _ _ HI.out rfl 4 (Sha.bytes4 (Sha.at_ (Sha.toL s) k)) rfl _ rfl rfl (by rw [HL.out]; omega) hsw ?_; intro v' w' hown' hb')
      exact ⟨⟨k + 1, by omega, by go_num, hown', HB.out.trans hb'⟩, by simp [intOf]; omega⟩
    · have HK : Hid (k = 8) := by unfold Hid; omega
      obtain ⟨g, cap, hv, hg1, hg2, hg3, hg4, hg5⟩ := HI.out.form (by omega)
      rw [hlen] at hv
      subst hv
      have hconv := run_conv_owned (P := Tryz.prog) wr 85 5 9 Tryz.underlying85 Tryz.underlying5 Tryz.underlying9 g 0 _ (4 * k) hlen (fun i hi => by rw [Nat.zero_add]; exact hg5 i (by omega)) cap
      clear hg1 hg2 hg3 hg4 hg5 hlen
      go_wp2
      go_ret
      exact ⟨by show Ending.returned (.string (strOf (Sha.textTo (Sha.toL s) k))) = _; rw [HK.out], hbw.trans (hb.mono (by omega))⟩
end Go.Proofs.YtnjilfdmplbalaaGreatDoor
