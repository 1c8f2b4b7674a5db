/- The walks of package wire: what takes. -/
import Derived.Test.YtnokhjpileamaaaDoorWrite
import Derived.BigQuiet
namespace Go.Proofs.YtnokhjpileamaaaDoor
open Go.RowKit
theorem or_low (m : Nat) (x : UInt8) (h : m < 72057594037927936) : bits .or .u64 ((m : Int) * 256) (w8 x) = ((m * 256 + x.toNat : Nat) : Int) := by
  have hx := w8_lt x
  unfold w8
  rw [show (m : Int) * 256 = ((m * 256 : Nat) : Int) from by omega, u64_or_nat _ _ (by omega) (by omega)]
  have := Nat.two_pow_add_eq_or_of_lt (i := 8) (b := x.toNat) (by omega) m
  rw [show 2 ^ 8 * m = m * 256 from by omega] at this
  rw [this]
set_option maxHeartbeats 400000 in
theorem number_any (A : Option Addr) (n c : Nat) (us : List UInt8) (w : World) (hr : BRow w A n c us) (hn : 8 ≤ n) :
    Calls Tryd.prog 93 #[.slice A n c] w fun e w' => e = .returned (.int .i64 (int8 (us.take 8))) ∧ w = w' := by
  obtain ⟨b, off, rfl, hcell⟩ := Row.form hr (by omega)
  have HL := Lib.hid hr.len; have HC := Lib.hid hcell; clear hr hcell
  go_enter Tryd.func93, Tryd.ntmps93
  go_wp2
  go_loop [3, 4, 5] (fun v y i => ∃ k : Nat, k ≤ 8 ∧ i = .int .i64 k ∧ v = .int .u64 (numB (us.take k) : Nat)) (fun _ _ i => 8 - (intOf i).toNat)
  case atStart => exact ⟨0, by omega, rfl, rfl⟩
  case round =>
    obtain ⟨k, hk, rfl, rfl⟩ := hrel
    by_cases hlt : k < 8
    · have hc := HC.out k (by omega)
      rw [bytesV_get _ _ (by rw [HL.out]; omega)] at hc
      unfold bv at hc
      have hsn : Hid (numB (us.take (k + 1)) = numB (us.take k) * 256 + (us.getD k 0).toNat) := by
        unfold Hid; rw [take_snoc' us k 0 (by rw [HL.out]; omega), numB_snoc]
      have hm : numB (us.take k) < 72057594037927936 := by
        have h1 := numB_lt k (us.take k) (by rw [List.length_take, HL.out]; omega)
        have h2 : 256 ^ k ≤ 256 ^ 7 := Nat.pow_le_pow_right (by omega) (by omega)
        have h3 : (256 : Nat) ^ 7 = 72057594037927936 := by decide
        omega
      generalize hM : numB (us.take k) = m at hm hsn ⊢
      clear hM
      generalize us.getD k 0 = x at hc hsn
      have hor := or_low m x hm
      have hwx : IntKind.u64.wrap (w8 x) = w8 x := by have := w8_bd x; rw [IntKind.wrap_u64]; omega
      go_wp2
      go_round
      case rel => exact ⟨k + 1, by omega, by go_num, by rw [hsn.out]; go_num⟩
      case measure => simp [intOf]; omega
    · have HK : Hid (k = 8) := by unfold Hid; omega
      go_wp2
      go_ret
      exact ⟨by unfold int8; rw [← HK.out]; rfl, rfl⟩
theorem BRow.drop {w : World} {A : Option Addr} {n c : Nat} {us : List UInt8} (h : BRow w A n c us) (k : Nat) (hk : k ≤ n) : BRow w (dropA A c k 1) (n - k) (c - k) (us.drop k) := by
  have := Row.drop h k hk
  rw [Nat.mul_one, bytesV_drop] at this
  exact this
theorem BRow.take {w : World} {A : Option Addr} {n c : Nat} {us : List UInt8} (h : BRow w A n c us) (k : Nat) (hk : k ≤ n) : BRow w A k c (us.take k) := by
  have := Row.take h k hk
  rw [Nat.mul_one, bytesV_take] at this
  exact this
/-- Nothing was taken. -/
def noneI : Ending := .returned (.tuple #[.int .i64 0, .slice none 0 0, .bool false])
def noneS : Ending := .returned (.tuple #[.string ⟨#[]⟩, .slice none 0 0, .bool false])
def noneL : Ending := .returned (.tuple #[.slice none 0 0, .slice none 0 0, .bool false])
set_option maxHeartbeats 400000 in
theorem takeInt_no (A : Option Addr) (n c : Nat) (w : World) (hn : n < 8) :
    Calls Tryd.prog 90 #[.slice A n c] w fun e w' => e = noneI ∧ w = w' := by
  go_enter Tryd.func90, Tryd.ntmps90
  go_wp2
  go_ret3
  exact ⟨rfl, rfl⟩
/-- The number that was taken and the bytes behind it. -/
def TookI (w : World) (us : List UInt8) (e : Ending) (w' : World) : Prop := ∃ A m c, e = .returned (.tuple #[.int .i64 (int8 (us.take 8)), .slice A m c, .bool true]) ∧ m = us.length - 8 ∧ BRow w A m c (us.drop 8) ∧ Below w.heap.size w w'
set_option maxHeartbeats 400000 in
theorem takeInt_yes (A : Option Addr) (n c : Nat) (us : List UInt8) (w : World) (hr : BRow w A n c us) (hn : 8 ≤ n) :
    Calls Tryd.prog 90 #[.slice A n c] w (TookI w us) := by
  have hsl := fun w => run_slice_from (P := Tryd.prog) (t := 28) Tryd.underlying28 u8_size (A := A) (n := n) (c := c) (k := 8) (i := 8) rfl hn .i64 w
  have hd := hr.drop 8 hn
  generalize dropA A c 8 1 = A' at hsl hd
  have HR := Lib.hid hr; have HD := Lib.hid hd; have HL := Lib.hid hr.len; clear hr hd
  go_enter Tryd.func90, Tryd.ntmps90
  go_wp2_with fail
  refine wp_region_grow (by kernel_rfl) Later Later.refl (fun _ _ _ => Later.trans) [4, 5, 6] [([0, 2, 3], 1)] (by kernel_rfl) (by kernel_rfl) (by kernel_rfl) ?_
  simp only [List.map_cons, List.map_nil, pick, List.getD_cons_zero, List.getD_cons_succ]
  refine wpGrow_cons ?_
  repeat (go_big_quiet_step (fail))
  refine wpQuiet_nil ?_
  go_wp2_with fail
  refine (number_any A n c us w.drew (HR.out.later (Later.drew w)) hn).mono ?_
  rintro e w1 ⟨rfl, rfl⟩
  go_wp2_with fail
  refine pieceEnd_normal ⟨Later.refl _, ?_⟩
  refine wpGrow_nil ?_
  repeat (go_big_quiet_step (fail))
  refine wpQuiet_nil ?_
  go_wp2
  go_ret3
  exact ⟨_, _, _, rfl, by rw [HL.out], HD.out, (Later.drew w)⟩
/-- The number at the beginning of bytes; whether so many elements of a size are announced, permitted and there. -/
def cnt (us : List UInt8) : Int := int8 (us.take 8)
structure CountOk (us : List UInt8) (most : Int) (size : Nat) : Prop where
  len : 8 ≤ us.length
  nn : 0 ≤ cnt us
  le : cnt us ≤ most
  fit : cnt us ≤ (((us.length - 8) / size : Nat) : Int)
theorem countNot {us : List UInt8} {most : Int} {size n : Nat} (hl : us.length = n) (hn : 8 ≤ n) (hno : ¬ CountOk us most size) : cnt us < 0 ∨ (0 ≤ cnt us ∧ most < cnt us) ∨ (0 ≤ cnt us ∧ cnt us ≤ most ∧ (((n - 8) / size : Nat) : Int) < cnt us) := by
  rcases Int.lt_or_le (cnt us) 0 with h | h
  · exact .inl h
  · rcases Int.lt_or_le most (cnt us) with h1 | h1
    · exact .inr (.inl ⟨h, h1⟩)
    · rcases Int.lt_or_le (((n - 8) / size : Nat) : Int) (cnt us) with h2 | h2
      · exact .inr (.inr ⟨h, h1, h2⟩)
      · exact (hno ⟨by rw [hl]; exact hn, h, h1, by rw [hl]; exact h2⟩).elim
set_option maxHeartbeats 1000000 in
theorem takeCount_no (A : Option Addr) (n c : Nat) (us : List UInt8) (most : Int) (size : Nat) (w : World) (hr : BRow w A n c us) (hs : size = 1 ∨ size = 8) (hnm : n ≤ 900000000) (hno : ¬ CountOk us most size) :
    Calls Tryd.prog 94 #[.slice A n c, .int .i64 most, .int .i64 size] w fun e w' => e = noneI ∧ Below w.heap.size w w' := by
  have HR := Lib.hid hr; have HL := Lib.hid hr.len; have HNO := Lib.hid hno; clear hr hno
  by_cases hn : n < 8
  · go_enter Tryd.func94, Tryd.ntmps94
    go_wp2_with fail
    refine (takeInt_no A n c w hn).mono ?_
    rintro e w1 ⟨rfl, rfl⟩
    unfold noneI
    go_wp2
    go_ret3
    exact ⟨rfl, Below.refl _ _⟩
  · have hn8 : 8 ≤ n := by omega
    have h4 := Lib.hid (countNot HL.out hn8 HNO.out)
    rcases hs with rfl | rfl
    all_goals
      go_enter Tryd.func94, Tryd.ntmps94
      go_wp2_with fail
      refine (takeInt_yes A n c us w HR.out hn8).mono ?_
      rintro e w1 ⟨A1, m, c1, rfl, hm, hr1, hb1⟩
      have HB1 := Lib.hid hb1; rw [HL.out] at hm; have HM := Lib.hid hm; clear hb1 hr1
      have hm9 : m ≤ 900000000 := by omega
      clear hm
      unfold cnt at h4
      generalize int8 (us.take 8) = v at h4 ⊢
      rcases h4.out with h | ⟨h, h1⟩ | ⟨h, h1, h2⟩
      · have g : (decide (v < 0)) = true := decide_eq_true h
        clear h
        go_wp2
        go_ret3
        exact ⟨rfl, HB1.out⟩
      · have g : (decide (v < 0)) = false := decide_eq_false (by omega)
        have g1 : (decide (most < v)) = true := decide_eq_true h1
        clear h h1
        go_wp2
        go_ret3
        exact ⟨rfl, HB1.out⟩
      · rw [← HM.out] at h2
        have g : (decide (v < 0)) = false := decide_eq_false (by omega)
        have g1 : (decide (most < v)) = false := decide_eq_false (by omega)
        first
          | (have g2 : (decide ((m : Int) < v)) = true := decide_eq_true (by omega)
             clear h h1 h2
             go_wp2
             go_ret3
             exact ⟨rfl, HB1.out⟩)
          | (have g2 : (decide ((m : Int) / 8 < v)) = true := decide_eq_true (by omega)
             clear h h1 h2
             go_wp2
             go_ret3
             exact ⟨rfl, HB1.out⟩)
set_option maxHeartbeats 1000000 in
theorem takeCount_yes (A : Option Addr) (n c : Nat) (us : List UInt8) (most : Int) (size : Nat) (w : World) (hr : BRow w A n c us) (hs : size = 1 ∨ size = 8) (hnm : n ≤ 900000000) (hok : CountOk us most size) :
    Calls Tryd.prog 94 #[.slice A n c, .int .i64 most, .int .i64 size] w (TookI w us) := by
  have HR := Lib.hid hr; have HL := Lib.hid hr.len; have HOK := Lib.hid hok; clear hr hok
  have hn8 : 8 ≤ n := by have := HOK.out.len; rw [HL.out] at this; exact this
  rcases hs with rfl | rfl
  all_goals
    go_enter Tryd.func94, Tryd.ntmps94
    go_wp2_with fail
    refine (takeInt_yes A n c us w HR.out hn8).mono ?_
    rintro e w1 ⟨A1, m, c1, rfl, hm, hr1, hb1⟩
    have HB1 := Lib.hid hb1; have HR1 := Lib.hid hr1; have HM0 := Lib.hid hm; rw [HL.out] at hm; have HM := Lib.hid hm; clear hb1 hr1
    have hm9 : m ≤ 900000000 := by omega
    clear hm
    have h := HOK.out.nn; have h1 := HOK.out.le; have h2 := HOK.out.fit
    rw [HL.out, ← HM.out] at h2
    unfold cnt at h h1 h2
    obtain ⟨v, hv⟩ : ∃ v, v = int8 (us.take 8) := ⟨_, rfl⟩
    rw [← hv] at h h1 h2 ⊢
    have HV := Lib.hid hv; clear hv
    have g : (decide (v < 0)) = false := decide_eq_false (by omega)
    have g1 : (decide (most < v)) = false := decide_eq_false (by omega)
    first
      | (have g2 : (decide ((m : Int) < v)) = false := decide_eq_false (by omega)
         clear h h1 h2
         go_wp2
         go_ret3
         exact ⟨A1, m, c1, by rw [← HV.out]; rfl, HM0.out, HR1.out, HB1.out⟩)
      | (have g2 : (decide ((m : Int) / 8 < v)) = false := decide_eq_false (by omega)
         clear h h1 h2
         go_wp2
         go_ret3
         exact ⟨A1, m, c1, by rw [← HV.out]; rfl, HM0.out, HR1.out, HB1.out⟩)
end Go.Proofs.YtnokhjpileamaaaDoor
