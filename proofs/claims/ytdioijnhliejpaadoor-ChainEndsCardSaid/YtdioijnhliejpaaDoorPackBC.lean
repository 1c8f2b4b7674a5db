import Derived.Test.YtdioijnhliejpaaDoorPackB
/- The digests of chains of four statements, part 3. -/
namespace Go.Proofs.YtdioijnhliejpaaDoor
namespace F
theorem three60 : threeN 6 0 = true := by kernel_rfl
theorem three61 : threeN 6 1 = true := by kernel_rfl
theorem three62 : threeN 6 2 = true := by kernel_rfl
theorem three63 : threeN 6 3 = true := by kernel_rfl
theorem three64 : threeN 6 4 = true := by kernel_rfl
theorem three65 : threeN 6 5 = true := by kernel_rfl
theorem three66 : threeN 6 6 = true := by kernel_rfl
theorem three67 : threeN 6 7 = true := by kernel_rfl
theorem three68 : threeN 6 8 = true := by kernel_rfl
theorem three70 : threeN 7 0 = true := by kernel_rfl
theorem three71 : threeN 7 1 = true := by kernel_rfl
theorem three72 : threeN 7 2 = true := by kernel_rfl
theorem three73 : threeN 7 3 = true := by kernel_rfl
theorem three74 : threeN 7 4 = true := by kernel_rfl
theorem three75 : threeN 7 5 = true := by kernel_rfl
theorem three76 : threeN 7 6 = true := by kernel_rfl
theorem three77 : threeN 7 7 = true := by kernel_rfl
theorem three78 : threeN 7 8 = true := by kernel_rfl
theorem three80 : threeN 8 0 = true := by kernel_rfl
theorem three81 : threeN 8 1 = true := by kernel_rfl
theorem three82 : threeN 8 2 = true := by kernel_rfl
theorem three83 : threeN 8 3 = true := by kernel_rfl
theorem three84 : threeN 8 4 = true := by kernel_rfl
theorem three85 : threeN 8 5 = true := by kernel_rfl
theorem three86 : threeN 8 6 = true := by kernel_rfl
theorem three87 : threeN 8 7 = true := by kernel_rfl
theorem three88 : threeN 8 8 = true := by kernel_rfl
end F
end Go.Proofs.YtdioijnhliejpaaDoor
