/- The walks of the two functions that turn a word. -/
import Derived.Test.YtnjilfdmplbalaaGreatDoorRows
import Derived.Test.YtnjilfdmplbalaaGreatDoorWords
import Derived.WalkSpells
import Derived.WalkLawsBesides
namespace Go.Proofs.YtnjilfdmplbalaaGreatDoor
open Go.RowKit
theorem rotr_comm (x : UInt32) (n : Nat) : ushr x n ||| ushl x (32 - n) = rotr x n := UInt32.or_comm _ _
set_option maxHeartbeats 400000 in
theorem turn_any (x : UInt32) (n : Nat) (h1 : 1 ≤ n) (h : n ≤ 31) (w : World) :
    Calls Tryz.prog 137 #[.int .u32 (w32 x), .int .u64 n] w fun e w' => e = .returned (.int .u32 (w32 (rotr x n))) ∧ w = w' := by
  have h2 : n ≤ 32 := by omega
  have h3 : (n : Int) ≤ 32 := by omega
  go_enter Tryz.func137, Tryz.ntmps137
  go_wp2
  go_ret
  exact ⟨by rw [← rotr_comm]; rfl, rfl⟩
def rots : List Int := [-2, -6, -7, -11, -13, -17, -18, -19, -22, -25]
theorem rots_and (k : Int) (hk : k ∈ rots) : bits .and .u64 (IntKind.u64.wrap k) 31 = 32 + k := by
  have h : ∀ k ∈ rots, bits .and .u64 (IntKind.u64.wrap k) 31 = 32 + k := by decide +kernel
  exact h k hk
set_option maxHeartbeats 400000 in
theorem rot_any (x : UInt32) (k : Int) (hk : k ∈ rots) (w : World) :
    Calls Tryz.prog 149 #[.int .u32 (w32 x), .int .i64 k] w fun e w' => e = .returned (.int .u32 (w32 (rotr x (-k).toNat))) ∧ w = w' := by
  have e := rots_and k hk
  simp only [rots, List.mem_cons, List.not_mem_nil, or_false] at hk
  rcases hk with rfl | rfl | rfl | rfl | rfl | rfl | rfl | rfl | rfl | rfl
  all_goals
    go_enter Tryz.func149, Tryz.ntmps149
    go_wp2
    go_ret
    exact ⟨rfl, rfl⟩
end Go.Proofs.YtnjilfdmplbalaaGreatDoor
