/-
  PROVED: for every input each of the laws GraphRaw, GraphUndone returns true and leaves its arguments as they were. Conditions: none but the rows' own.
-/
import Derived.Test.YtnmpbjgccbnomaaPackAK
import Derived.Test.YtnmpbjgccbnomaaPackAL
import Derived.Test.YtnmpbjgccbnomaaPackAN

namespace Go.Proofs.Ytnmpbjgccbnomaa.graphPlain
theorem raw : Rows.GraphRawSaid := graphRaw.over graphS
theorem undone : Rows.GraphUndoneSaid := graphUndone.over graphC
end Go.Proofs.Ytnmpbjgccbnomaa.graphPlain
