/- The walk of digest.Hex. -/
import Derived.Test.YtnakcgikiepceaaDoorPad
import Derived.StillTailTactics
import Derived.BigRegion
import Derived.Deep.RegionLaw
namespace Go.Proofs.YtnakcgikiepceaaDoor
open Go.RowKit
/-- A byte of a string, by its index. -/
theorem run_index_strOf {P : Program} (t : TypeId) (ht : P.underlying t = some .string) (l : List UInt8) (k : IntKind) (i : Int) (j : Nat) (hi : i = (j : Int)) (hj : j < l.length) (w : World) :
    (Instr.index t (.string (strOf l)) (.int k i)).run P w = .ok (bv (l.getD j 0)) w := by
  subst hi
  have h1 : (strOf l)[j]? = some (l.getD j 0) := by
    have hs : j < (strOf l).size := by rw [strOf_size]; exact hj
    rw [getElem?_pos (strOf l) j hs]
    exact congrArg some (by simp [strOf, ByteArray.getElem_eq_getElem_data, hj])
  simp only [Instr.index, asIntOf, Sem.run_bind, run_underlying ht, Result.andThen_ok, Sem.run_pure]
  simp only [Int.natCast_nonneg, if_true, Int.toNat_natCast, h1, Sem.run_pure]
  rfl
def hi4 (x : UInt8) : UInt8 := UInt8.ofNat (x.toNat / 16)
def lo4 (x : UInt8) : UInt8 := x &&& 15
def hexDigits : List UInt8 := [48, 49, 50, 51, 52, 53, 54, 55, 56, 57, 97, 98, 99, 100, 101, 102]
def hexD (x : UInt8) : UInt8 := hexDigits.getD x.toNat 0
def hexTo (l : List UInt8) : Nat → List UInt8
  | 0 => []
  | k + 1 => hexTo l k ++ [hexD (hi4 (l.getD k 0)), hexD (lo4 (l.getD k 0))]
theorem hexTo_len (l : List UInt8) (k : Nat) : (hexTo l k).length = 2 * k := by
  induction k with
  | zero => rfl
  | succ k ih => simp [hexTo, ih]; omega
theorem hi4_lt (x : UInt8) : (hi4 x).toNat < 16 := by
  unfold hi4; rw [UInt8.toNat_ofNat']; have := w8_lt x; omega
theorem lo4_lt (x : UInt8) : (lo4 x).toNat < 16 := by
  unfold lo4; rw [UInt8.toNat_and]; exact Nat.lt_of_le_of_lt Nat.and_le_right (by decide)
theorem shr_hi4 (yk : IntKind) (x : UInt8) : Op.shift .shr .u8 (w8 x) yk 4 = pure (.int .u8 (w8 (hi4 x))) := by
  rw [shift_shr_any _ _ _ _ (by omega)]
  have h := w8_lt x
  unfold hi4 w8
  rw [UInt8.toNat_ofNat', Nat.mod_eq_of_lt (by omega)]
  simp [IntKind.bits]
theorem and_lo4 (x : UInt8) : bits .and .u8 (w8 x) 15 = w8 (lo4 x) := by
  unfold w8 lo4
  rw [show (15 : Int) = ((15 : Nat) : Int) from rfl, u8_and_nat _ _ (w8_lt x) (by omega), UInt8.toNat_and]; rfl
attribute [go_sem ↓] shr_hi4
attribute [go_sem ↓] and_lo4
set_option maxRecDepth 20000 in
set_option maxHeartbeats 1000000 in
theorem hex_any (l : List UInt8) (hl : l.length ≤ 1000000) (hl0 : 0 < l.length) (w : World) : Calls Tryd.prog 8 #[.string (strOf l)] w fun e w' => e = .returned (.string (strOf (hexTo l l.length))) ∧ Below w.heap.size w w' := by
  have hsz := strOf_size l
  obtain ⟨n, hn⟩ : ∃ n, n = l.length := ⟨_, rfl⟩
  rw [← hn] at hl hl0 hsz ⊢
  have HN := Lib.hid hn; clear hn
  obtain ⟨s, hs⟩ : ∃ s, s = strOf l := ⟨_, rfl⟩
  rw [← hs] at hsz ⊢
  have HS := Lib.hid hs; clear hs
  go_enter Tryd.func8, Tryd.ntmps8
  go_wp2_with (at_make; refine wpList_room' _ rfl (.const (.int .i64 0)) (.tmp 7) 22 5 rfl w.heap.size Tryd.underlying22 u8_info (2 * n) rfl rfl (by omega) (by omega) (by simp) ?_; intro v1 w1 ho1 hb1; have HO1 := Lib.hid ho1; clear ho1)
  go_loopw [3, 11] (fun v i wr => ∃ k : Nat, k ≤ n ∧ i = .int .i64 k ∧ Hid (Owns wr w.heap.size 5 v (hexTo l k) ∧ Below w.heap.size w wr)) (fun _ i _ => n - (intOf i).toNat)
  case atStart => exact ⟨0, by omega, rfl, HO1.out, hb1⟩
  case round =>
    obtain ⟨k, hk, rfl, HI⟩ := hrel
    have hlen := hexTo_len l k
    by_cases hlt : k < n
    · have HL := Lib.hid hlen; clear hlen
      have hx : ∀ w, (Instr.index 9 (.string s) (.int .i64 (k : Int))).run Tryd.prog w = .ok (.int .u8 (w8 (l.getD k 0))) w := fun w => by
        rw [HS.out]; exact run_index_strOf _ Tryd.underlying9 l _ _ k rfl (by rw [← HN.out]; exact hlt) w
      generalize hgx : l.getD k 0 = x at hx
      have HX := Lib.hid hgx; clear hgx
      have hd1 : ∀ w, (Instr.index 9 (.string (strOf hexDigits)) (.int .u8 (w8 (hi4 x)))).run Tryd.prog w = .ok (.int .u8 (w8 (hexD (hi4 x)))) w := fun w =>
        run_index_strOf _ Tryd.underlying9 hexDigits _ _ (hi4 x).toNat rfl (hi4_lt x) w
      have hd2 : ∀ w, (Instr.index 9 (.string (strOf hexDigits)) (.int .u8 (w8 (lo4 x)))).run Tryd.prog w = .ok (.int .u8 (w8 (hexD (lo4 x)))) w := fun w =>
        run_index_strOf _ Tryd.underlying9 hexDigits _ _ (lo4 x).toNat rfl (lo4_lt x) w
      simp only [strOf, hexDigits] at hd1 hd2
      go_wp2
      have hsw : w.heap.size ≤ wr.heap.size := HI.out.2.size
      go_region_law ((refine step_push wr.drew rfl (.tmp 14) (.tmp 25) 22 5 rfl w.heap.size Tryd.underlying22 u8_info _ (hexTo l k) HI.out.1 rfl 2 [hexD (hi4 x), hexD (lo4 x)] rfl _ rfl rfl rfl rfl (by rw [HL.out]; omega) hsw ?_; intro v' w' hown' hb'))
      all_goals
        go_wp2
        refine ⟨⟨k + 1, by omega, by go_num, by rw [hexTo, HX.out]; exact ⟨hown', HI.out.2.trans (Below.trans (Below.refl _ _).drew hb')⟩⟩, by simp [intOf]; omega⟩
    · have HK : Hid (k = n) := by unfold Hid; omega
      obtain ⟨g, cap, hv, hg1, hg2, hg3, hg4, hg5⟩ := HI.out.1.form (by omega)
      rw [hlen] at hv
      subst hv
      have hconv := run_conv_owned (P := Tryd.prog) wr 22 5 9 Tryd.underlying22 Tryd.underlying5 Tryd.underlying9 g 0 _ (2 * k) hlen (fun i hi => by rw [Nat.zero_add]; exact hg5 i (by omega)) cap
      clear hg1 hg2 hg3 hg4 hg5 hlen
      go_wp2
      go_ret
      exact ⟨by show Ending.returned (.string (strOf (hexTo l k))) = _; rw [HK.out], HI.out.2⟩
end Go.Proofs.YtnakcgikiepceaaDoor
