/-
  NARROWER THAN 'FOR EVERY INPUT', by the rows' own cells (each row's printed sentence says how): StoreRaw: laid · StoreMade: laid · StoreMerges: laid · StorePins: laid · StoreGrows: laid · StoreFull: laid.
  DERIVED. THE GIVEN ROWS OF THIS SEAT. 6 by the template 'for every input the law returns true; each argument reads behind the call as it read before'; 0 by the template 'total and deterministic' (their statements: YtnjilfdmplbalaaGreatDoorTotals.lean).
  GIVEN WITH THE SEED: the statements are not yours to turn. If you find one false, say at which input.
  Laid BY PROGRAM, IN A SANDBOX (cutbox-rows.mjs): the forced cells as the released guide's own fill.sh prints them over the translation b54ced847ce8a284… (all of the seat's roots in one cut). By AI agents, Wed Nov 11 2026. No macro, syntax, notation, axiom, sorry.
-/
import Derived.Test.YtnjilfdmplbalaaGreatDoorChecked
import GoSem.Claim
import GoSem.ClaimJoined
import GoSem.ClaimMapViews
import Derived.JoinedTies
import Derived.KernelRfl
namespace Go.Proofs.YtnjilfdmplbalaaGreatDoor
/- THE CELL 'sum', in the pinned program and in every row, IS THE sha256 OF THE DUMP (.gsa) THAT YtnjilfdmplbalaaGreatDoorProg.lean LOADS. Nothing in Lean hashes anything: it is a label: what it is worth is what the hold of that sum in a sandbox is worth. -/
noncomputable def Tryz.pinned : Pinned := { name := "ytnjilfdmplbalaagreatdoor", sum := "b54ced847ce8a284367b180fcfef2ced9d07fed4389ce41576ce1473d174eebc", checked := Tryz.checked }
namespace Rows
def none {H : Type} : Left H := { results := [], args := [] }

/- WHAT THE LISTED PACKAGE-LEVEL VARIABLES READ AS WHEN THE CALL BEGINS. Each datum BY PROGRAM (the guide's laid-datum.mjs) off the statement by which the dump's own 'gosem.cut.vars' lays the variable. In a bare row this is a premise. The card (YtnjilfdmplbalaaGreatDoorCards.lean) ties it to the program's text. -/
def laid_trustflow_digest_rounds {H : Type} : DataW H := .agg [.lit (.int .u32 1116352408), .lit (.int .u32 1899447441), .lit (.int .u32 3049323471), .lit (.int .u32 3921009573), .lit (.int .u32 961987163), .lit (.int .u32 1508970993), .lit (.int .u32 2453635748), .lit (.int .u32 2870763221), .lit (.int .u32 3624381080), .lit (.int .u32 310598401), .lit (.int .u32 607225278), .lit (.int .u32 1426881987), .lit (.int .u32 1925078388), .lit (.int .u32 2162078206), .lit (.int .u32 2614888103), .lit (.int .u32 3248222580), .lit (.int .u32 3835390401), .lit (.int .u32 4022224774), .lit (.int .u32 264347078), .lit (.int .u32 604807628), .lit (.int .u32 770255983), .lit (.int .u32 1249150122), .lit (.int .u32 1555081692), .lit (.int .u32 1996064986), .lit (.int .u32 2554220882), .lit (.int .u32 2821834349), .lit (.int .u32 2952996808), .lit (.int .u32 3210313671), .lit (.int .u32 3336571891), .lit (.int .u32 3584528711), .lit (.int .u32 113926993), .lit (.int .u32 338241895), .lit (.int .u32 666307205), .lit (.int .u32 773529912), .lit (.int .u32 1294757372), .lit (.int .u32 1396182291), .lit (.int .u32 1695183700), .lit (.int .u32 1986661051), .lit (.int .u32 2177026350), .lit (.int .u32 2456956037), .lit (.int .u32 2730485921), .lit (.int .u32 2820302411), .lit (.int .u32 3259730800), .lit (.int .u32 3345764771), .lit (.int .u32 3516065817), .lit (.int .u32 3600352804), .lit (.int .u32 4094571909), .lit (.int .u32 275423344), .lit (.int .u32 430227734), .lit (.int .u32 506948616), .lit (.int .u32 659060556), .lit (.int .u32 883997877), .lit (.int .u32 958139571), .lit (.int .u32 1322822218), .lit (.int .u32 1537002063), .lit (.int .u32 1747873779), .lit (.int .u32 1955562222), .lit (.int .u32 2024104815), .lit (.int .u32 2227730452), .lit (.int .u32 2361852424), .lit (.int .u32 2428436474), .lit (.int .u32 2756734187), .lit (.int .u32 3204031479), .lit (.int .u32 3329325298)]

/-- 'trustflowlaw05.StoreRaw': WHATEVER THE INPUT: true; the input reads as it did. -/
def storeRawSpec : ChangeSpec := { name := "storeRaw", fn := fun _ => fun
  | [d1, d2, d3] => { results := [.lit (.bool true)], args := [d1, d2, d3] }
  | _ => none }
def storeRawRow : OpenClaim := { program := "ytnjilfdmplbalaagreatdoor", sum := "b54ced847ce8a284367b180fcfef2ced9d07fed4389ce41576ce1473d174eebc", func := "trustflow/trustflowlaw05.StoreRaw", spec := "storeRaw", inPlace := ["internal/bytealg.abigen_runtime_cmpstring"], unfollowed := true, recurses := true, named := ["trustflow/digest.rounds"], apart := false, laid := [("trustflow/digest.rounds", laid_trustflow_digest_rounds)] }
def StoreRawSaid : Prop := storeRawRow.holds Tryz.pinned (OpenSpec.ofChange storeRawSpec)

/-- ITS FALSE NEIGHBOUR: 'it returns false'. Refute it at one input. -/
def storeRawWrong : ChangeSpec := { name := "storeRaw", fn := fun _ => fun
  | [d1, d2, d3] => { results := [.lit (.bool false)], args := [d1, d2, d3] }
  | _ => none }
def StoreRawWrongFalsely : Prop := storeRawRow.holds Tryz.pinned (OpenSpec.ofChange storeRawWrong)

/-- 'trustflowlaw05.StoreMade': WHATEVER THE INPUT: true; the input reads as it did. -/
def storeMadeSpec : ChangeSpec := { name := "storeMade", fn := fun _ => fun
  | [d1, d2] => { results := [.lit (.bool true)], args := [d1, d2] }
  | _ => none }
def storeMadeRow : OpenClaim := { program := "ytnjilfdmplbalaagreatdoor", sum := "b54ced847ce8a284367b180fcfef2ced9d07fed4389ce41576ce1473d174eebc", func := "trustflow/trustflowlaw05.StoreMade", spec := "storeMade", inPlace := ["internal/bytealg.abigen_runtime_cmpstring"], unfollowed := true, recurses := true, named := ["trustflow/digest.rounds"], apart := false, laid := [("trustflow/digest.rounds", laid_trustflow_digest_rounds)] }
def StoreMadeSaid : Prop := storeMadeRow.holds Tryz.pinned (OpenSpec.ofChange storeMadeSpec)

/-- ITS FALSE NEIGHBOUR: 'it returns false'. Refute it at one input. -/
def storeMadeWrong : ChangeSpec := { name := "storeMade", fn := fun _ => fun
  | [d1, d2] => { results := [.lit (.bool false)], args := [d1, d2] }
  | _ => none }
def StoreMadeWrongFalsely : Prop := storeMadeRow.holds Tryz.pinned (OpenSpec.ofChange storeMadeWrong)

/-- 'trustflowlaw05.StoreMerges': WHATEVER THE INPUT: true; the input reads as it did. -/
def storeMergesSpec : ChangeSpec := { name := "storeMerges", fn := fun _ => fun
  | [d] => { results := [.lit (.bool true)], args := [d] }
  | _ => none }
def storeMergesRow : OpenClaim := { program := "ytnjilfdmplbalaagreatdoor", sum := "b54ced847ce8a284367b180fcfef2ced9d07fed4389ce41576ce1473d174eebc", func := "trustflow/trustflowlaw05.StoreMerges", spec := "storeMerges", inPlace := ["internal/bytealg.abigen_runtime_cmpstring"], unfollowed := true, recurses := true, named := ["trustflow/digest.rounds"], apart := false, laid := [("trustflow/digest.rounds", laid_trustflow_digest_rounds)] }
def StoreMergesSaid : Prop := storeMergesRow.holds Tryz.pinned (OpenSpec.ofChange storeMergesSpec)

/-- ITS FALSE NEIGHBOUR: 'it returns false'. Refute it at one input. -/
def storeMergesWrong : ChangeSpec := { name := "storeMerges", fn := fun _ => fun
  | [d] => { results := [.lit (.bool false)], args := [d] }
  | _ => none }
def StoreMergesWrongFalsely : Prop := storeMergesRow.holds Tryz.pinned (OpenSpec.ofChange storeMergesWrong)

/-- 'trustflowlaw05.StorePins': WHATEVER THE INPUT: true; the input reads as it did. -/
def storePinsSpec : ChangeSpec := { name := "storePins", fn := fun _ => fun
  | [d] => { results := [.lit (.bool true)], args := [d] }
  | _ => none }
def storePinsRow : OpenClaim := { program := "ytnjilfdmplbalaagreatdoor", sum := "b54ced847ce8a284367b180fcfef2ced9d07fed4389ce41576ce1473d174eebc", func := "trustflow/trustflowlaw05.StorePins", spec := "storePins", inPlace := ["internal/bytealg.abigen_runtime_cmpstring"], unfollowed := true, recurses := true, named := ["trustflow/digest.rounds"], apart := false, laid := [("trustflow/digest.rounds", laid_trustflow_digest_rounds)] }
def StorePinsSaid : Prop := storePinsRow.holds Tryz.pinned (OpenSpec.ofChange storePinsSpec)

/-- ITS FALSE NEIGHBOUR: 'it returns false'. Refute it at one input. -/
def storePinsWrong : ChangeSpec := { name := "storePins", fn := fun _ => fun
  | [d] => { results := [.lit (.bool false)], args := [d] }
  | _ => none }
def StorePinsWrongFalsely : Prop := storePinsRow.holds Tryz.pinned (OpenSpec.ofChange storePinsWrong)

/-- 'trustflowlaw05.StoreGrows': WHATEVER THE INPUT: true; the input reads as it did. -/
def storeGrowsSpec : ChangeSpec := { name := "storeGrows", fn := fun _ => fun
  | [d] => { results := [.lit (.bool true)], args := [d] }
  | _ => none }
def storeGrowsRow : OpenClaim := { program := "ytnjilfdmplbalaagreatdoor", sum := "b54ced847ce8a284367b180fcfef2ced9d07fed4389ce41576ce1473d174eebc", func := "trustflow/trustflowlaw05.StoreGrows", spec := "storeGrows", inPlace := ["internal/bytealg.abigen_runtime_cmpstring"], unfollowed := true, recurses := true, named := ["trustflow/digest.rounds"], apart := false, laid := [("trustflow/digest.rounds", laid_trustflow_digest_rounds)] }
def StoreGrowsSaid : Prop := storeGrowsRow.holds Tryz.pinned (OpenSpec.ofChange storeGrowsSpec)

/-- ITS FALSE NEIGHBOUR: 'it returns false'. Refute it at one input. -/
def storeGrowsWrong : ChangeSpec := { name := "storeGrows", fn := fun _ => fun
  | [d] => { results := [.lit (.bool false)], args := [d] }
  | _ => none }
def StoreGrowsWrongFalsely : Prop := storeGrowsRow.holds Tryz.pinned (OpenSpec.ofChange storeGrowsWrong)

/-- 'trustflowlaw05.StoreFull': WHATEVER THE INPUT: true; the input reads as it did. -/
def storeFullSpec : ChangeSpec := { name := "storeFull", fn := fun _ => fun
  | [] => { results := [.lit (.bool true)], args := [] }
  | _ => none }
def storeFullRow : OpenClaim := { program := "ytnjilfdmplbalaagreatdoor", sum := "b54ced847ce8a284367b180fcfef2ced9d07fed4389ce41576ce1473d174eebc", func := "trustflow/trustflowlaw05.StoreFull", spec := "storeFull", inPlace := ["internal/bytealg.abigen_runtime_cmpstring"], unfollowed := true, recurses := true, named := ["trustflow/digest.rounds"], apart := false, laid := [("trustflow/digest.rounds", laid_trustflow_digest_rounds)] }
def StoreFullSaid : Prop := storeFullRow.holds Tryz.pinned (OpenSpec.ofChange storeFullSpec)

/-- ITS FALSE NEIGHBOUR: 'it returns false'. Refute it at one input. -/
def storeFullWrong : ChangeSpec := { name := "storeFull", fn := fun _ => fun
  | [] => { results := [.lit (.bool false)], args := [] }
  | _ => none }
def StoreFullWrongFalsely : Prop := storeFullRow.holds Tryz.pinned (OpenSpec.ofChange storeFullWrong)

/- THE SECOND FORM. 'bulk': how many values and letters a reading holds, each counted each time it is reached (what is shared counts as often as it is met; a slice's spare places count too). A statement '..UptoSaid' is the law's where the arguments, and the package variables that the reading takes, are together of bulk at most 1048576: NARROWER than '..Said'. Prove '..Said' where nothing that the law and all that it calls make is longer than what came in: it says more and counts as full. Else prove '..UptoSaid'. A law counts once. -/
mutual
def uptoBulk {H : Type} : DataW H → Nat
  | .lit (.string bytes) => bytes.length + 1
  | .lit _ => 1
  | .nil => 1
  | .ptr d => uptoBulk d + 1
  | .slice elems spare => uptoBulkAll elems + uptoBulkAll spare + 1
  | .agg parts => uptoBulkAll parts + 1
  | .iface _ d => uptoBulk d + 1
  | .map entries => uptoBulkEntries entries + 1
  | .held _ => 1
def uptoBulkAll {H : Type} : List (DataW H) → Nat
  | [] => 0
  | d :: r => uptoBulk d + uptoBulkAll r
def uptoBulkEntries {H : Type} : List (Lit × DataW H) → Nat
  | [] => 0
  | x :: r => uptoBulkEntry x + uptoBulkEntries r
def uptoBulkEntry {H : Type} : Lit × DataW H → Nat
  | (.string bytes, d) => bytes.length + uptoBulk d + 1
  | (_, d) => uptoBulk d + 1
 end
def uptoSmall : (H : Type) → List (DataW H) → Bool := fun _ ds => decide (uptoBulkAll ds ≤ 1048576)
def OpenSpec.upto (s : _root_.Go.ChangeSpec) : _root_.Go.OpenSpec := { _root_.Go.OpenSpec.ofChange s with cond := some uptoSmall }

/-- 'trustflowlaw05.StoreRaw', WHERE WHAT IT READS IS OF BULK AT MOST 1048576: true; the input reads as it did. -/
def storeRawUptoRow : OpenClaim := { program := "ytnjilfdmplbalaagreatdoor", sum := "b54ced847ce8a284367b180fcfef2ced9d07fed4389ce41576ce1473d174eebc", func := "trustflow/trustflowlaw05.StoreRaw", spec := "storeRaw", inPlace := ["internal/bytealg.abigen_runtime_cmpstring"], unfollowed := true, recurses := true, named := ["trustflow/digest.rounds"], apart := false, laid := [("trustflow/digest.rounds", laid_trustflow_digest_rounds)], narrowed := true }
def StoreRawUptoSaid : Prop := storeRawUptoRow.holds Tryz.pinned (OpenSpec.upto storeRawSpec)

/-- 'trustflowlaw05.StoreMade', WHERE WHAT IT READS IS OF BULK AT MOST 1048576: true; the input reads as it did. -/
def storeMadeUptoRow : OpenClaim := { program := "ytnjilfdmplbalaagreatdoor", sum := "b54ced847ce8a284367b180fcfef2ced9d07fed4389ce41576ce1473d174eebc", func := "trustflow/trustflowlaw05.StoreMade", spec := "storeMade", inPlace := ["internal/bytealg.abigen_runtime_cmpstring"], unfollowed := true, recurses := true, named := ["trustflow/digest.rounds"], apart := false, laid := [("trustflow/digest.rounds", laid_trustflow_digest_rounds)], narrowed := true }
def StoreMadeUptoSaid : Prop := storeMadeUptoRow.holds Tryz.pinned (OpenSpec.upto storeMadeSpec)

/-- 'trustflowlaw05.StoreMerges', WHERE WHAT IT READS IS OF BULK AT MOST 1048576: true; the input reads as it did. -/
def storeMergesUptoRow : OpenClaim := { program := "ytnjilfdmplbalaagreatdoor", sum := "b54ced847ce8a284367b180fcfef2ced9d07fed4389ce41576ce1473d174eebc", func := "trustflow/trustflowlaw05.StoreMerges", spec := "storeMerges", inPlace := ["internal/bytealg.abigen_runtime_cmpstring"], unfollowed := true, recurses := true, named := ["trustflow/digest.rounds"], apart := false, laid := [("trustflow/digest.rounds", laid_trustflow_digest_rounds)], narrowed := true }
def StoreMergesUptoSaid : Prop := storeMergesUptoRow.holds Tryz.pinned (OpenSpec.upto storeMergesSpec)

/-- 'trustflowlaw05.StorePins', WHERE WHAT IT READS IS OF BULK AT MOST 1048576: true; the input reads as it did. -/
def storePinsUptoRow : OpenClaim := { program := "ytnjilfdmplbalaagreatdoor", sum := "b54ced847ce8a284367b180fcfef2ced9d07fed4389ce41576ce1473d174eebc", func := "trustflow/trustflowlaw05.StorePins", spec := "storePins", inPlace := ["internal/bytealg.abigen_runtime_cmpstring"], unfollowed := true, recurses := true, named := ["trustflow/digest.rounds"], apart := false, laid := [("trustflow/digest.rounds", laid_trustflow_digest_rounds)], narrowed := true }
def StorePinsUptoSaid : Prop := storePinsUptoRow.holds Tryz.pinned (OpenSpec.upto storePinsSpec)

/-- 'trustflowlaw05.StoreGrows', WHERE WHAT IT READS IS OF BULK AT MOST 1048576: true; the input reads as it did. -/
def storeGrowsUptoRow : OpenClaim := { program := "ytnjilfdmplbalaagreatdoor", sum := "b54ced847ce8a284367b180fcfef2ced9d07fed4389ce41576ce1473d174eebc", func := "trustflow/trustflowlaw05.StoreGrows", spec := "storeGrows", inPlace := ["internal/bytealg.abigen_runtime_cmpstring"], unfollowed := true, recurses := true, named := ["trustflow/digest.rounds"], apart := false, laid := [("trustflow/digest.rounds", laid_trustflow_digest_rounds)], narrowed := true }
def StoreGrowsUptoSaid : Prop := storeGrowsUptoRow.holds Tryz.pinned (OpenSpec.upto storeGrowsSpec)

/-- 'trustflowlaw05.StoreFull', WHERE WHAT IT READS IS OF BULK AT MOST 1048576: true; the input reads as it did. -/
def storeFullUptoRow : OpenClaim := { program := "ytnjilfdmplbalaagreatdoor", sum := "b54ced847ce8a284367b180fcfef2ced9d07fed4389ce41576ce1473d174eebc", func := "trustflow/trustflowlaw05.StoreFull", spec := "storeFull", inPlace := ["internal/bytealg.abigen_runtime_cmpstring"], unfollowed := true, recurses := true, named := ["trustflow/digest.rounds"], apart := false, laid := [("trustflow/digest.rounds", laid_trustflow_digest_rounds)], narrowed := true }
def StoreFullUptoSaid : Prop := storeFullUptoRow.holds Tryz.pinned (OpenSpec.upto storeFullSpec)

end Rows
end Go.Proofs.YtnjilfdmplbalaaGreatDoor
