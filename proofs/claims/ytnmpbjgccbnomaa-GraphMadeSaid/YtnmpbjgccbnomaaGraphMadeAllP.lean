/-
  PROVED: for every input the law GraphMade returns true and leaves its arguments as they were. Conditions: none but the row's own.
-/
import Derived.Test.YtnmpbjgccbnomaaPackAK
import Derived.Test.YtnmpbjgccbnomaaPackAO

namespace Go.Proofs.Ytnmpbjgccbnomaa.graphMadeAll
theorem made : Rows.GraphMadeSaid := graphMade.over graphS
end Go.Proofs.Ytnmpbjgccbnomaa.graphMadeAll
