/- The walk of trustflowmade.Mod. -/
import Derived.Test.YtnjilfdmplbalaaGreatDoorRows
import Derived.WalkKit
import Derived.Lib.Hide
namespace Go.Proofs.YtnjilfdmplbalaaGreatDoor
open Go.RowKit
def modF (n m : Int) : Int := if n.tmod m < 0 then n.tmod m + m else n.tmod m
theorem tmod_bd (n m : Int) (hm : 1 ≤ m) : -m < n.tmod m ∧ n.tmod m < m := by
  constructor
  · have := Int.lt_tmod_of_pos n (show 0 < m by omega); omega
  · exact Int.tmod_lt_of_pos n (by omega)
theorem modF_bd (n m : Int) (hm : 1 ≤ m) : 0 ≤ modF n m ∧ modF n m < m := by
  have h := tmod_bd n m hm
  unfold modF; split <;> omega
set_option maxHeartbeats 400000 in
theorem mod_any (n m : Int) (w : World) (hm : 1 ≤ m) (hm2 : m ≤ 1000000) : Calls Tryz.prog 36 #[.int .i64 n, .int .i64 m] w fun e w' => e = .returned (.int .i64 (modF n m)) ∧ w = w' := by
  have hb := tmod_bd n m hm
  by_cases h0 : n.tmod m < 0
  all_goals
    go_enter Tryz.func36, Tryz.ntmps36
    go_wp2
    go_ret
    exact ⟨by unfold modF; first | (rw [if_pos h0]; rfl) | (rw [if_neg (by omega)]; rfl), rfl⟩
end Go.Proofs.YtnjilfdmplbalaaGreatDoor
