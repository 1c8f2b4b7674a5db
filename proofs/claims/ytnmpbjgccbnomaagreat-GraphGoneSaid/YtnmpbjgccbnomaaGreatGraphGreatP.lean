/-
  PROVED: for every input each of the laws GraphAt, GraphGone returns true and leaves its arguments as they were. Conditions: none but the rows' own.
-/
import Derived.Test.YtnmpbjgccbnomaaGreatPackAZ
import Derived.Test.YtnmpbjgccbnomaaGreatPackBD
import Derived.Test.YtnmpbjgccbnomaaGreatPackBE
import Derived.Test.YtnmpbjgccbnomaaGreatPackBF

namespace Go.Proofs.YtnmpbjgccbnomaaGreat.graphGreat
theorem atC : AtC := ⟨fun A n c l tm lv w hl hn ho => atGr_any A n c l tm lv w hl hn ho⟩
theorem at_ : Rows.GraphAtSaid := graphAt.over ⟨graphC, atC⟩
theorem gone : Rows.GraphGoneSaid := graphGone.over ⟨graphC, atC⟩
end Go.Proofs.YtnmpbjgccbnomaaGreat.graphGreat
