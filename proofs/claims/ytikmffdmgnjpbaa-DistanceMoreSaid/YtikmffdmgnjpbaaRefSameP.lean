import Derived.Test.YtikmffdmgnjpbaaPackAB
/- The walk of the reference's Same. -/
namespace Go.Proofs.Ytikmffdmgnjpbaa
open Go.RowKit
end Go.Proofs.Ytikmffdmgnjpbaa
