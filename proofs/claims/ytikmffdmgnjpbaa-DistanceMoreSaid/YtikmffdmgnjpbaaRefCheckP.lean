import Derived.Test.YtikmffdmgnjpbaaPackAF
/- The walk of the reference's Check. -/
namespace Go.Proofs.Ytikmffdmgnjpbaa
open Go.RowKit
end Go.Proofs.Ytikmffdmgnjpbaa
