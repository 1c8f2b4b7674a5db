/-
  PROVED: for every input the law VouchMade returns true and leaves its arguments as they were. Conditions: none but the row's own.
-/
import Derived.Test.YtjmapbaofpilaaaGreatPackAX
import Derived.Test.YtjmapbaofpilaaaGreatPackAY

namespace Go.Proofs.YtjmapbaofpilaaaGreat.vouchAll
theorem made : Rows.VouchMadeSaid := vouchMade.over vouchC
end Go.Proofs.YtjmapbaofpilaaaGreat.vouchAll
