/-
  PROVED: for every input the law DistanceMore returns true and leaves its argument as it was. Conditions: none but the row's own.
-/
import Derived.Test.YtikmffdmgnjpbaaPackAY

namespace Go.Proofs.Ytikmffdmgnjpbaa.distanceMorePlain
theorem more : Rows.DistanceMoreSaid := distanceMore.over
end Go.Proofs.Ytikmffdmgnjpbaa.distanceMorePlain
