/- What the program says of the types of bytes and numbers. -/
import Derived.Test.YtnjilfdmplbalaaGreatDoorRows
import Derived.KernelRfl
namespace Go.Proofs.YtnjilfdmplbalaaGreatDoor
theorem u8_info : (Tryz.prog.info? 5).map (fun i => (i.zero, i.size, i.bytes)) = some (some (.int .u8 0), 1, 1) := by kernel_rfl
theorem i64_info : (Tryz.prog.info? 3).map (fun i => (i.zero, i.size, i.bytes)) = some (some (.int .i64 0), 1, 8) := by kernel_rfl
theorem u8_size : (Tryz.prog.info? 5).map (·.size) = some 1 := by kernel_rfl
theorem i64_size : (Tryz.prog.info? 3).map (·.size) = some 1 := by kernel_rfl
end Go.Proofs.YtnjilfdmplbalaaGreatDoor
