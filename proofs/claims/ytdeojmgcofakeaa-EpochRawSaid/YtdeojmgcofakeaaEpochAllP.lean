/-
  PROVED: for every input each of the laws EpochRaw, EpochMade, EpochOrder, EpochEach returns true and leaves its arguments as they were. Conditions: none but the rows' own.
-/
import Derived.Test.YtdeojmgcofakeaaPackAY
import Derived.Test.YtdeojmgcofakeaaPackAZ
import Derived.Test.YtdeojmgcofakeaaPackBA

namespace Go.Proofs.Ytdeojmgcofakeaa.epochAll
theorem raw : Rows.EpochRawSaid := epochRaw.over epochC
theorem made : Rows.EpochMadeSaid := epochMade.over epochC
theorem order : Rows.EpochOrderSaid := epochOrder.over epochC
theorem each : Rows.EpochEachSaid := epochEach.over epochC
end Go.Proofs.Ytdeojmgcofakeaa.epochAll
