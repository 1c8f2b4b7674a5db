/-
  No cell of these rows narrows 'for every input' (looked for: loops, veiled, ifaces, maps, wideKeys, modest, calm, conditions, laid).
  DERIVED. THE GIVEN ROWS OF THIS SEAT. 3 by the template 'for every input the law returns true; each argument reads behind the call as it read before'; 0 by the template 'total and deterministic' (their statements: YtnmpbjgccbnomaaTotals.lean).
  GIVEN WITH THE SEED: the statements are not yours to turn. If you find one false, say at which input.
  Laid BY PROGRAM, IN A SANDBOX (cutbox-rows.mjs): the forced cells as the released guide's own fill.sh prints them over the translation 0cc16f832cd920ef… (all of the seat's roots in one cut). By AI agents, Wed Nov 11 2026. No macro, syntax, notation, axiom, sorry.
-/
import Derived.Test.YtnmpbjgccbnomaaChecked
import GoSem.Claim
import GoSem.ClaimJoined
import GoSem.ClaimMapViews
import Derived.JoinedTies
import Derived.KernelRfl
namespace Go.Proofs.Ytnmpbjgccbnomaa
/- THE CELL 'sum', in the pinned program and in every row, IS THE sha256 OF THE DUMP (.gsa) THAT YtnmpbjgccbnomaaProg.lean LOADS. Nothing in Lean hashes anything: it is a label: what it is worth is what the hold of that sum in a sandbox is worth. -/
noncomputable def Try.pinned : Pinned := { name := "ytnmpbjgccbnomaa", sum := "0cc16f832cd920ef6685948a36ab93770714bffa29e04b0cc8fb34984582d21d", checked := Try.checked }
namespace Rows
def none {H : Type} : Left H := { results := [], args := [] }

/-- 'trustflowlaw11.GraphRaw': WHATEVER THE INPUT: true; the input reads as it did. -/
def graphRawSpec : ChangeSpec := { name := "graphRaw", fn := fun _ => fun
  | [d1, d2, d3] => { results := [.lit (.bool true)], args := [d1, d2, d3] }
  | _ => none }
def graphRawRow : OpenClaim := { program := "ytnmpbjgccbnomaa", sum := "0cc16f832cd920ef6685948a36ab93770714bffa29e04b0cc8fb34984582d21d", func := "trustflow/trustflowlaw11.GraphRaw", spec := "graphRaw", inPlace := ["slices.overlaps[trustflow/api.Edge]"], unfollowed := true, recurses := true, apart := false }
def GraphRawSaid : Prop := graphRawRow.holds Try.pinned (OpenSpec.ofChange graphRawSpec)

/-- ITS FALSE NEIGHBOUR: 'it returns false'. Refute it at one input. -/
def graphRawWrong : ChangeSpec := { name := "graphRaw", fn := fun _ => fun
  | [d1, d2, d3] => { results := [.lit (.bool false)], args := [d1, d2, d3] }
  | _ => none }
def GraphRawWrongFalsely : Prop := graphRawRow.holds Try.pinned (OpenSpec.ofChange graphRawWrong)

/-- 'trustflowlaw11.GraphMade': WHATEVER THE INPUT: true; the input reads as it did. -/
def graphMadeSpec : ChangeSpec := { name := "graphMade", fn := fun _ => fun
  | [d1, d2] => { results := [.lit (.bool true)], args := [d1, d2] }
  | _ => none }
def graphMadeRow : OpenClaim := { program := "ytnmpbjgccbnomaa", sum := "0cc16f832cd920ef6685948a36ab93770714bffa29e04b0cc8fb34984582d21d", func := "trustflow/trustflowlaw11.GraphMade", spec := "graphMade", inPlace := ["slices.overlaps[trustflow/api.Edge]"], unfollowed := true, recurses := true, apart := false }
def GraphMadeSaid : Prop := graphMadeRow.holds Try.pinned (OpenSpec.ofChange graphMadeSpec)

/-- ITS FALSE NEIGHBOUR: 'it returns false'. Refute it at one input. -/
def graphMadeWrong : ChangeSpec := { name := "graphMade", fn := fun _ => fun
  | [d1, d2] => { results := [.lit (.bool false)], args := [d1, d2] }
  | _ => none }
def GraphMadeWrongFalsely : Prop := graphMadeRow.holds Try.pinned (OpenSpec.ofChange graphMadeWrong)

/-- 'trustflowlaw11.GraphUndone': WHATEVER THE INPUT: true; the input reads as it did. -/
def graphUndoneSpec : ChangeSpec := { name := "graphUndone", fn := fun _ => fun
  | [d] => { results := [.lit (.bool true)], args := [d] }
  | _ => none }
def graphUndoneRow : OpenClaim := { program := "ytnmpbjgccbnomaa", sum := "0cc16f832cd920ef6685948a36ab93770714bffa29e04b0cc8fb34984582d21d", func := "trustflow/trustflowlaw11.GraphUndone", spec := "graphUndone", inPlace := ["slices.overlaps[trustflow/api.Edge]"], unfollowed := true, recurses := true, apart := false }
def GraphUndoneSaid : Prop := graphUndoneRow.holds Try.pinned (OpenSpec.ofChange graphUndoneSpec)

/-- ITS FALSE NEIGHBOUR: 'it returns false'. Refute it at one input. -/
def graphUndoneWrong : ChangeSpec := { name := "graphUndone", fn := fun _ => fun
  | [d] => { results := [.lit (.bool false)], args := [d] }
  | _ => none }
def GraphUndoneWrongFalsely : Prop := graphUndoneRow.holds Try.pinned (OpenSpec.ofChange graphUndoneWrong)

/- THE SECOND FORM. 'bulk': how many values and letters a reading holds, each counted each time it is reached (what is shared counts as often as it is met; a slice's spare places count too). A statement '..UptoSaid' is the law's where the arguments, and the package variables that the reading takes, are together of bulk at most 1048576: NARROWER than '..Said'. Prove '..Said' where nothing that the law and all that it calls make is longer than what came in: it says more and counts as full. Else prove '..UptoSaid'. A law counts once. -/
mutual
def uptoBulk {H : Type} : DataW H → Nat
  | .lit (.string bytes) => bytes.length + 1
  | .lit _ => 1
  | .nil => 1
  | .ptr d => uptoBulk d + 1
  | .slice elems spare => uptoBulkAll elems + uptoBulkAll spare + 1
  | .agg parts => uptoBulkAll parts + 1
  | .iface _ d => uptoBulk d + 1
  | .map entries => uptoBulkEntries entries + 1
  | .held _ => 1
def uptoBulkAll {H : Type} : List (DataW H) → Nat
  | [] => 0
  | d :: r => uptoBulk d + uptoBulkAll r
def uptoBulkEntries {H : Type} : List (Lit × DataW H) → Nat
  | [] => 0
  | x :: r => uptoBulkEntry x + uptoBulkEntries r
def uptoBulkEntry {H : Type} : Lit × DataW H → Nat
  | (.string bytes, d) => bytes.length + uptoBulk d + 1
  | (_, d) => uptoBulk d + 1
 end
def uptoSmall : (H : Type) → List (DataW H) → Bool := fun _ ds => decide (uptoBulkAll ds ≤ 1048576)
def OpenSpec.upto (s : _root_.Go.ChangeSpec) : _root_.Go.OpenSpec := { _root_.Go.OpenSpec.ofChange s with cond := some uptoSmall }

/-- 'trustflowlaw11.GraphRaw', WHERE WHAT IT READS IS OF BULK AT MOST 1048576: true; the input reads as it did. -/
def graphRawUptoRow : OpenClaim := { program := "ytnmpbjgccbnomaa", sum := "0cc16f832cd920ef6685948a36ab93770714bffa29e04b0cc8fb34984582d21d", func := "trustflow/trustflowlaw11.GraphRaw", spec := "graphRaw", inPlace := ["slices.overlaps[trustflow/api.Edge]"], unfollowed := true, recurses := true, apart := false, narrowed := true }
def GraphRawUptoSaid : Prop := graphRawUptoRow.holds Try.pinned (OpenSpec.upto graphRawSpec)

/-- 'trustflowlaw11.GraphMade', WHERE WHAT IT READS IS OF BULK AT MOST 1048576: true; the input reads as it did. -/
def graphMadeUptoRow : OpenClaim := { program := "ytnmpbjgccbnomaa", sum := "0cc16f832cd920ef6685948a36ab93770714bffa29e04b0cc8fb34984582d21d", func := "trustflow/trustflowlaw11.GraphMade", spec := "graphMade", inPlace := ["slices.overlaps[trustflow/api.Edge]"], unfollowed := true, recurses := true, apart := false, narrowed := true }
def GraphMadeUptoSaid : Prop := graphMadeUptoRow.holds Try.pinned (OpenSpec.upto graphMadeSpec)

/-- 'trustflowlaw11.GraphUndone', WHERE WHAT IT READS IS OF BULK AT MOST 1048576: true; the input reads as it did. -/
def graphUndoneUptoRow : OpenClaim := { program := "ytnmpbjgccbnomaa", sum := "0cc16f832cd920ef6685948a36ab93770714bffa29e04b0cc8fb34984582d21d", func := "trustflow/trustflowlaw11.GraphUndone", spec := "graphUndone", inPlace := ["slices.overlaps[trustflow/api.Edge]"], unfollowed := true, recurses := true, apart := false, narrowed := true }
def GraphUndoneUptoSaid : Prop := graphUndoneUptoRow.holds Try.pinned (OpenSpec.upto graphUndoneSpec)

end Rows
end Go.Proofs.Ytnmpbjgccbnomaa
