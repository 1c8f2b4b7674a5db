/- The walks of the law: Mod, awake, DigestLong. -/
import Derived.Test.YtnakcgikiepceaaDoorHex
import Derived.Test.YtnakcgikiepceaaDoorSum
import Derived.Test.YtnakcgikiepceaaDoorSame
import Derived.Lib.SlBytesConst
namespace Go.Proofs.YtnakcgikiepceaaDoor
open Go.RowKit
def modF (n m : Int) : Int := if n.tmod m < 0 then n.tmod m + m else n.tmod m
theorem tmod_bd (n m : Int) (hm : 1 ≤ m) : -m < n.tmod m ∧ n.tmod m < m := by
  constructor
  · have := Int.lt_tmod_of_pos n (show 0 < m by omega); omega
  · exact Int.tmod_lt_of_pos n (by omega)
theorem modF_bd (n m : Int) (hm : 1 ≤ m) : 0 ≤ modF n m ∧ modF n m < m := by
  have h := tmod_bd n m hm
  unfold modF; split <;> omega
set_option maxHeartbeats 400000 in
theorem mod_any (n m : Int) (w : World) (hm : 1 ≤ m) (hm2 : m ≤ 1000000) : Calls Tryd.prog 4 #[.int .i64 n, .int .i64 m] w fun e w' => e = .returned (.int .i64 (modF n m)) ∧ w = w' := by
  have hb := tmod_bd n m hm
  by_cases h0 : n.tmod m < 0
  all_goals
    go_enter Tryd.func4, Tryd.ntmps4
    go_wp2
    go_ret
    exact ⟨by unfold modF; first | (rw [if_pos h0]; rfl) | (rw [if_neg (by omega)]; rfl), rfl⟩
def abcHex : List UInt8 := [98, 97, 55, 56, 49, 54, 98, 102, 56, 102, 48, 49, 99, 102, 101, 97, 52, 49, 52, 49, 52, 48, 100, 101, 53, 100, 97, 101, 50, 50, 50, 51, 98, 48, 48, 51, 54, 49, 97, 51, 57, 54, 49, 55, 55, 97, 57, 99, 98, 52, 49, 48, 102, 102, 54, 49, 102, 50, 48, 48, 49, 53, 97, 100]
theorem abc_hex : hexTo (shaL [97, 98, 99] 3) 32 = abcHex := by decide +kernel
theorem shaL_len (m : List UInt8) (n : Nat) : (shaL m n).length = 32 := Sha.textTo_len _ _
theorem abc_cells {w : World} {cs : Array Value} {fr : Nat × Nat} (h : cs = (bytesV [97, 98, 99]).toArray) : SliceAt (w.alloc (.cells cs 5 fr)) (some ⟨w.heap.size, 0, none⟩) 3 3 [97, 98, 99] := by
  subst h
  refine ⟨rfl, Nat.le_refl _, (fun e => by cases e), (fun ad e _ => ?_)⟩
  injection e with e; subst e
  refine ⟨w.heap.size, 0, rfl, fun i hi => ?_⟩
  rw [Nat.zero_add, cell_of_row _ _ _ _ _ _ (heap_alloc_new _ _)]
  have h : i = 0 ∨ i = 1 ∨ i = 2 := by omega
  rcases h with rfl | rfl | rfl <;> rfl
set_option maxRecDepth 20000 in
set_option maxHeartbeats 1000000 in
theorem awake_any (w : World) (hr : Rounds w) : Calls Tryd.prog 5 #[] w fun e w' => e = .returned (.bool true) ∧ Below w.heap.size w w' := by
  have HR := Lib.hid hr; clear hr
  have hconv := fun (w : World) (C : Array Value) (n c : Nat) => Lib.run_convert_bytes_const (P := Tryd.prog) w 22 5 C n c Tryd.underlying22 Tryd.underlying5
  have hsl := shaL_len [97, 98, 99] 3
  obtain ⟨D, hD⟩ : ∃ D, D = shaL [97, 98, 99] 3 := ⟨_, rfl⟩
  rw [← hD] at hsl
  have hhex : hexTo D 32 = abcHex := by rw [hD]; exact abc_hex
  have HD := Lib.hid hD; have HSL := Lib.hid hsl; have HH := Lib.hid hhex; clear hD hsl hhex
  go_enter Tryd.func5, Tryd.ntmps5
  go_wp2_with fail
  refine (sum_any _ 3 3 [97, 98, 99] _ (abc_cells rfl) (by omega) (HR.out.below ((Below.refl _ _).alloc (Nat.le_refl _) _) HR.out.lt)).mono ?_
  rintro e w1 ⟨he, hb1⟩
  have he2 : e = .returned (.string (strOf D)) := by rw [he, HD.out]; rfl
  clear he
  subst he2
  have hb1' : Below w.heap.size w w1 := ((Below.refl _ _).alloc (Nat.le_refl _) _).trans (hb1.mono (by simp))
  have HB1 := Lib.hid hb1'; clear hb1 hb1' hconv
  go_wp2_with fail
  refine (hex_any D (by rw [HSL.out]; omega) (by rw [HSL.out]; omega) w1).mono ?_
  rintro e w2 ⟨he, hb2⟩
  rw [HSL.out, HH.out] at he
  have HB2 := Lib.hid hb2; clear hb2
  subst he
  simp only [strOf, abcHex]
  go_wp2
  go_ret
  exact ⟨rfl, HB1.out.trans (HB2.out.mono HB1.out.size)⟩
end Go.Proofs.YtnakcgikiepceaaDoor
