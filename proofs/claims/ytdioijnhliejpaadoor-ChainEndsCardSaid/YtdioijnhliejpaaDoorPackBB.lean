import Derived.Test.YtdioijnhliejpaaDoorPackB
/- The digests of chains of four statements, part 2. -/
namespace Go.Proofs.YtdioijnhliejpaaDoor
namespace F
theorem three30 : threeN 3 0 = true := by kernel_rfl
theorem three31 : threeN 3 1 = true := by kernel_rfl
theorem three32 : threeN 3 2 = true := by kernel_rfl
theorem three33 : threeN 3 3 = true := by kernel_rfl
theorem three34 : threeN 3 4 = true := by kernel_rfl
theorem three35 : threeN 3 5 = true := by kernel_rfl
theorem three36 : threeN 3 6 = true := by kernel_rfl
theorem three37 : threeN 3 7 = true := by kernel_rfl
theorem three38 : threeN 3 8 = true := by kernel_rfl
theorem three40 : threeN 4 0 = true := by kernel_rfl
theorem three41 : threeN 4 1 = true := by kernel_rfl
theorem three42 : threeN 4 2 = true := by kernel_rfl
theorem three43 : threeN 4 3 = true := by kernel_rfl
theorem three44 : threeN 4 4 = true := by kernel_rfl
theorem three45 : threeN 4 5 = true := by kernel_rfl
theorem three46 : threeN 4 6 = true := by kernel_rfl
theorem three47 : threeN 4 7 = true := by kernel_rfl
theorem three48 : threeN 4 8 = true := by kernel_rfl
theorem three50 : threeN 5 0 = true := by kernel_rfl
theorem three51 : threeN 5 1 = true := by kernel_rfl
theorem three52 : threeN 5 2 = true := by kernel_rfl
theorem three53 : threeN 5 3 = true := by kernel_rfl
theorem three54 : threeN 5 4 = true := by kernel_rfl
theorem three55 : threeN 5 5 = true := by kernel_rfl
theorem three56 : threeN 5 6 = true := by kernel_rfl
theorem three57 : threeN 5 7 = true := by kernel_rfl
theorem three58 : threeN 5 8 = true := by kernel_rfl
end F
end Go.Proofs.YtdioijnhliejpaaDoor
