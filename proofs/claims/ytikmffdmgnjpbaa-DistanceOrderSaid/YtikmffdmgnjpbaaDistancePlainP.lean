/-
  PROVED: for every input each of the laws DistanceAll, DistanceWays, DistanceOrder returns true and leaves its arguments as they were. Conditions: none but the rows' own.
-/
import Derived.Test.YtikmffdmgnjpbaaPackAZ
import Derived.Test.YtikmffdmgnjpbaaPackBB

namespace Go.Proofs.Ytikmffdmgnjpbaa.distancePlain
theorem all : Rows.DistanceAllSaid := distanceAll.over
theorem ways : Rows.DistanceWaysSaid := distanceWays.over
theorem order : Rows.DistanceOrderSaid := distanceOrder.over
end Go.Proofs.Ytikmffdmgnjpbaa.distancePlain
