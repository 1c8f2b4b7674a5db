/-
  PROVED: for every input the law CapacityMade returns true and leaves its argument as it was. Conditions: none but the row's own.
-/
import Derived.Test.YtdildmfjekdlgaaPackBF

namespace Go.Proofs.Ytdildmfjekdlgaa.capacityMadePlain
theorem made : Rows.CapacityMadeSaid := capacityMade.over
end Go.Proofs.Ytdildmfjekdlgaa.capacityMadePlain
