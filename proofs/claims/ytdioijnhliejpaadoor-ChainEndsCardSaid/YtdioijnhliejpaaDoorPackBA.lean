import Derived.Test.YtdioijnhliejpaaDoorPackB
/- The digests of chains of four statements, part 1. -/
namespace Go.Proofs.YtdioijnhliejpaaDoor
namespace F
theorem three00 : threeN 0 0 = true := by kernel_rfl
theorem three01 : threeN 0 1 = true := by kernel_rfl
theorem three02 : threeN 0 2 = true := by kernel_rfl
theorem three03 : threeN 0 3 = true := by kernel_rfl
theorem three04 : threeN 0 4 = true := by kernel_rfl
theorem three05 : threeN 0 5 = true := by kernel_rfl
theorem three06 : threeN 0 6 = true := by kernel_rfl
theorem three07 : threeN 0 7 = true := by kernel_rfl
theorem three08 : threeN 0 8 = true := by kernel_rfl
theorem three10 : threeN 1 0 = true := by kernel_rfl
theorem three11 : threeN 1 1 = true := by kernel_rfl
theorem three12 : threeN 1 2 = true := by kernel_rfl
theorem three13 : threeN 1 3 = true := by kernel_rfl
theorem three14 : threeN 1 4 = true := by kernel_rfl
theorem three15 : threeN 1 5 = true := by kernel_rfl
theorem three16 : threeN 1 6 = true := by kernel_rfl
theorem three17 : threeN 1 7 = true := by kernel_rfl
theorem three18 : threeN 1 8 = true := by kernel_rfl
theorem three20 : threeN 2 0 = true := by kernel_rfl
theorem three21 : threeN 2 1 = true := by kernel_rfl
theorem three22 : threeN 2 2 = true := by kernel_rfl
theorem three23 : threeN 2 3 = true := by kernel_rfl
theorem three24 : threeN 2 4 = true := by kernel_rfl
theorem three25 : threeN 2 5 = true := by kernel_rfl
theorem three26 : threeN 2 6 = true := by kernel_rfl
theorem three27 : threeN 2 7 = true := by kernel_rfl
theorem three28 : threeN 2 8 = true := by kernel_rfl
end F
end Go.Proofs.YtdioijnhliejpaaDoor
