/- The walks of the laws of wire: sameInts, awake. -/
import Derived.Test.YtmccnfdadipgiaaRefTake
namespace Go.Proofs.Ytmccnfdadipgiaa
open Go.RowKit
theorem below_drewN (B : Nat) (w : World) (n : Nat) : Below B w (w.drewN n) := ⟨rfl, rfl, rfl, Nat.le_refl _, fun _ _ => rfl⟩
set_option maxHeartbeats 1000000 in
theorem sameInts_yes (A B : Option Addr) (n c d : Nat) (l : List Int) (w : World) (ha : IRow w A n c l) (hb : IRow w B n d l) (hn : n ≤ 900000000) :
    Calls Try.prog 19 #[.slice A n c, .slice B n d] w fun e w' => e = .returned (.bool true) ∧ Below w.heap.size w w' := by
  have HA := Lib.hid ha; have HB := Lib.hid hb; have HL := Lib.hid ha.len; clear ha hb
  go_enter Try.func19, Try.ntmps19
  go_wp2
  go_loopw [5] (fun i wr => ∃ k : Nat, k ≤ n ∧ i = .int .i64 k ∧ Hid (Below w.heap.size w wr)) (fun i _ => n - (intOf i).toNat)
  case atStart => exact ⟨0, Nat.zero_le _, rfl, Lib.hid (Below.refl _ _)⟩
  case round =>
    obtain ⟨k, hk, rfl, HQ⟩ := hrel
    by_cases hlt : k < n
    · obtain ⟨b, off, hA, hca⟩ := (Row.later HA.out HQ.out).form (by omega)
      obtain ⟨b2, off2, hB, hcb⟩ := (Row.later HB.out HQ.out).form (by omega)
      have h1 := hca k (by omega); have h2 := hcb k (by omega)
      rw [intsV_get _ _ (by rw [HL.out]; exact hlt)] at h1 h2
      unfold iv at h1 h2
      subst hA hB
      clear hca hcb
      generalize l.getD k 0 = x at h1 h2
      go_wp2
      go_quiet (fail)
      go_wp2
      exact ⟨⟨k + 1, by omega, by go_num, HQ.out.trans (below_drewN _ _ _)⟩, by simp [intOf]; omega⟩
    · go_wp2
      go_ret
      exact ⟨rfl, HQ.out⟩
set_option maxHeartbeats 1000000 in
theorem sameInts_no (A B : Option Addr) (n c n' d : Nat) (l m : List Int) (w : World) (ha : IRow w A n c l) (hb : IRow w B n' d m) (hn : n ≤ 900000000) (hn' : n' ≤ 900000000) (hne : l ≠ m) :
    Calls Try.prog 19 #[.slice A n c, .slice B n' d] w fun e w' => e = .returned (.bool false) ∧ Below w.heap.size w w' := by
  have HA := Lib.hid ha; have HB := Lib.hid hb; have HL := Lib.hid ha.len; have HM := Lib.hid hb.len; have HN := Lib.hid hne; clear ha hb hne
  by_cases hnn : n = n'
  · subst hnn
    go_enter Try.func19, Try.ntmps19
    go_wp2
    go_loopw [5] (fun i wr => ∃ k : Nat, k ≤ n ∧ i = .int .i64 k ∧ Hid (l.take k = m.take k ∧ Below w.heap.size w wr)) (fun i _ => n - (intOf i).toNat)
    case atStart => exact ⟨0, Nat.zero_le _, rfl, Lib.hid ⟨rfl, Below.refl _ _⟩⟩
    case round =>
      obtain ⟨k, hk, rfl, HQ⟩ := hrel
      by_cases hlt : k < n
      · obtain ⟨b, off, hA, hca⟩ := (Row.later HA.out HQ.out.2).form (by omega)
        obtain ⟨b2, off2, hB, hcb⟩ := (Row.later HB.out HQ.out.2).form (by omega)
        have h1 := hca k (by omega); have h2 := hcb k (by omega)
        rw [intsV_get _ _ (by rw [HL.out]; exact hlt)] at h1
        rw [intsV_get _ _ (by rw [HM.out]; exact hlt)] at h2
        unfold iv at h1 h2
        subst hA hB
        clear hca hcb
        by_cases hxy : l.getD k 0 = m.getD k 0
        · have HXY := Lib.hid hxy
          rw [hxy] at h1
          clear hxy
          generalize hgy : m.getD k 0 = y at h1 h2
          have HY := Lib.hid hgy; clear hgy
          go_wp2
          go_quiet (fail)
          go_wp2
          refine ⟨⟨k + 1, by omega, by go_num, ?_, HQ.out.2.trans (below_drewN _ _ _)⟩, by simp [intOf]; omega⟩
          rw [take_snoc' l k 0 (by rw [HL.out]; exact hlt), take_snoc' m k 0 (by rw [HM.out]; exact hlt), HQ.out.1, HXY.out]
        · generalize l.getD k 0 = x at h1 hxy
          generalize m.getD k 0 = y at h2 hxy
          have g1 : (x == y) = false := by simpa using hxy
          have g2 : (x != y) = true := by simpa using hxy
          have g3 : decide (x = y) = false := decide_eq_false hxy
          clear hxy
          go_wp2
          go_quiet (fail)
          go_wp2
          go_ret
          exact ⟨rfl, HQ.out.2.trans (below_drewN _ _ _)⟩
      · refine (HN.out ?_).elim
        have hk' : k = n := by omega
        have h := HQ.out.1
        rw [hk', List.take_of_length_le (by rw [HL.out]; exact Nat.le_refl _), List.take_of_length_le (by rw [HM.out]; exact Nat.le_refl _)] at h
        exact h
  · go_enter Try.func19, Try.ntmps19
    go_wp2
    go_ret
    exact ⟨rfl, Below.refl _ _⟩
/-- What the chapter's example is written as. -/
def abB : List UInt8 := [0, 0, 0, 0, 0, 0, 0, 2, 97, 98]
theorem abB_eq : [] ++ textB [97, 98] = abB := by decide +kernel
theorem abB_cnt : cnt abB = ((2 : Nat) : Int) := by decide +kernel
theorem abB_ok : CountOk abB 5 1 := ⟨by decide, by rw [abB_cnt]; decide, by rw [abB_cnt]; decide, by rw [abB_cnt]; decide⟩
set_option maxRecDepth 20000 in
set_option maxHeartbeats 1000000 in
theorem awake_any (w : World) : Calls Try.prog 7 #[] w fun e w' => e = .returned (.bool true) ∧ Below w.heap.size w w' := by
  go_enter Try.func7, Try.ntmps7
  go_wp2_with fail
  refine (wireText_any none 0 0 [] ⟨#[97, 98]⟩ w (Row.nilRow w 1) (by omega) (by decide)).mono ?_
  rintro e w1 ⟨A1, m1, c1, rfl, hm1, hr1, -, hb1⟩
  rw [show [] ++ textB (⟨#[97, 98]⟩ : ByteArray).data.toList = abB from abB_eq] at hm1 hr1
  obtain rfl : m1 = 10 := hm1
  have HR1 := Lib.hid hr1; have HB1 := Lib.hid hb1; clear hr1 hb1
  go_wp2_with fail
  refine (takeText_yes A1 10 c1 abB 5 2 w1 HR1.out (by omega) abB_ok abB_cnt).mono ?_
  rintro e w2 ⟨A2, m2, c2, rfl, hm2, -, hb2⟩
  rw [show strOf (List.take 2 (List.drop 8 abB)) = (⟨#[97, 98]⟩ : ByteArray) from rfl]
  obtain rfl : m2 = 0 := hm2
  obtain ⟨b, off, hA, hcell⟩ := (Row.later HR1.out (Below.mono hb2 (Nat.le_refl _))).form (by omega)
  have h7 := hcell 7 (by omega)
  have h9 := hcell 9 (by omega)
  rw [show (bytesV abB)[7]? = some (.int .u8 2) from rfl] at h7
  rw [show (bytesV abB)[9]? = some (.int .u8 98) from rfl] at h9
  subst hA
  have HB2 := Lib.hid (HB1.out.trans (hb2.mono HB1.out.size)); clear hb2 hcell
  go_wp2
  go_ret
  exact ⟨rfl, HB2.out⟩
end Go.Proofs.Ytmccnfdadipgiaa
