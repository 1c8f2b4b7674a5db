import Derived.Test.YtikmffdmgnjpbaaBlockP
import Derived.Test.YtikmffdmgnjpbaaPackAB
import Derived.Deep.RegionLaw
/- The walks of the reference's constants and Sum. -/
namespace Go.Proofs.Ytikmffdmgnjpbaa
open Go.RowKit
end Go.Proofs.Ytikmffdmgnjpbaa
