/-
  PROVED: for every input each of the laws CapacityRaw, CapacityMore, CapacityBounds returns true and leaves its arguments as they were. Conditions: none but the rows' own.
-/
import Derived.Test.YtdildmfjekdlgaaPackBF
import Derived.Test.YtdildmfjekdlgaaCapacityBoundsP

namespace Go.Proofs.Ytdildmfjekdlgaa.capacityPlain
theorem raw : Rows.CapacityRawSaid := capacityRaw.over
theorem more : Rows.CapacityMoreSaid := capacityMore.over
theorem bounds : Rows.CapacityBoundsSaid := capacityBounds.over
end Go.Proofs.Ytdildmfjekdlgaa.capacityPlain
