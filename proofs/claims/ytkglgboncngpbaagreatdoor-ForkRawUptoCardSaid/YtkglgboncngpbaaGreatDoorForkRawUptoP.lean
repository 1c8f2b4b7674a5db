/-
  PROVED: for every f and b that are together of bulk at most 1048576 the law ForkRaw returns true and leaves its arguments as they were. Conditions: the row's own (the bulk; the table digest.rounds holds what the program's text lays; it is tied to that text by the card).
-/
import Derived.Test.YtkglgboncngpbaaGreatDoorPackAT
import Derived.Test.YtkglgboncngpbaaGreatDoorPackAU
import Derived.Test.YtkglgboncngpbaaGreatDoorCards
import Derived.Test.YtkglgboncngpbaaGreatDoorTie
import Derived.ProofKit
import Derived.LaidMore
import Derived.OpenShut
import Derived.Stop.Joined
import Derived.JoinedCond
import Derived.SevenTiedAt
import Derived.Deep.DeepHandedRow
import Derived.Lib.LaidTab

namespace Go.Proofs.YtkglgboncngpbaaGreatDoor.forkRawUpto
open Go.ChangeShapes Go.WideShapes Go.ChangeAt Go.RowKit

theorem own : ownKnob Tryz.prog.godebug = none := by kernel_rfl
theorem laidOut : laidOutB Tryz.prog = true := by kernel_rfl
theorem cellsU : Tryz.prog.cellsOf 5 = 1 := by kernel_rfl
theorem gRounds : Tryz.prog.globalNamed "trustflow/digest.rounds" = some 0 := by kernel_rfl
theorem tRounds : (Tryz.prog.globals[0]?).map (·.type) = some 160 := by kernel_rfl
def kInts : List Int := Sha.K.map w32
theorem datum : (Rows.laid_trustflow_digest_rounds : DataW Unit) = Lib.tabData .u32 kInts := by kernel_rfl
/-- What the row's premise gives the walk: the table of the rounds. -/
theorem rounds_of_laid {W : World} (h : laidMetH Tryz.prog [("trustflow/digest.rounds", Rows.laid_trustflow_digest_rounds)] W) : Rounds W := by
  rw [MakeChecks.laidMetH_plain _ _ _ (by kernel_rfl), datum] at h
  have hT := Lib.tabIs_of_head gRounds tRounds Tryz.underlying160 Tryz.underlying106 (by kernel_rfl) (by kernel_rfl) h
  intro i hi
  have hl : i < kInts.length := by show i < 64; exact hi
  rw [hT.cell gRounds i hl]
  congr 2
  simp only [kInts, Sha.kAt, Sha.at_]
  have h2 : i < Sha.K.length := by show i < 64; exact hi
  simp [h2]
theorem door_met (os : Os) (args : Array Value) : laidMetH Tryz.prog [("trustflow/digest.rounds", Rows.laid_trustflow_digest_rounds)] ((World.doorLaid Tryz.prog 400 os).forCall (fun _ _ => 0) ⟨#[], args, []⟩).memory :=
  laidMetH_of_parts3 (fuel := 8) (laidMet_of_run' 8 (by kernel_rfl) (by kernel_rfl)) (by kernel_rfl) (by kernel_rfl)
/-- An input that fits: no evidence, and no bytes. -/
def noneV : Value := .agg #[.int .i64 0, .int .i64 0, .string ⟨#[]⟩, .int .i64 0, .int .i64 0, .int .i64 0, .int .i64 0, .int .i64 0, .slice none 0 0, .slice none 0 0, .string ⟨#[]⟩, .int .i64 0, .string ⟨#[]⟩, .int .i64 0, .int .i64 0, .string ⟨#[]⟩, .int .i64 0, .int .i64 0, .int .i64 0, .int .i64 0, .int .i64 0, .slice none 0 0, .slice none 0 0, .string ⟨#[]⟩, .int .i64 0, .string ⟨#[]⟩]
def noneD {H : Type} : DataW H := .agg [.agg [.lit (.int .i64 0), .lit (.int .i64 0), .lit (.string []), .lit (.int .i64 0), .lit (.int .i64 0), .lit (.int .i64 0), .lit (.int .i64 0), .lit (.int .i64 0), .nil, .nil, .lit (.string []), .agg [.lit (.int .i64 0), .lit (.string [])]], .agg [.lit (.int .i64 0), .lit (.int .i64 0), .lit (.string []), .lit (.int .i64 0), .lit (.int .i64 0), .lit (.int .i64 0), .lit (.int .i64 0), .lit (.int .i64 0), .nil, .nil, .lit (.string []), .agg [.lit (.int .i64 0), .lit (.string [])]]]
theorem reads (os : Os) {H : Type} (enc : TypeId × Value → H) : ∃ places, DataW.whole enc Tryz.prog ((World.doorLaid Tryz.prog 400 os).forCall (fun _ _ => 0) ⟨#[], #[noneV, .slice none 0 0], []⟩).memory Tryz.f3.params.toList Rows.forkRawSpec.vars false #[noneV, Value.slice none 0 0].toList 8 = some ([noneD, .nil], [], places) :=
  ⟨[], by kernel_rfl⟩
set_option maxRecDepth 100000 in
theorem lifted (os : Os) (started : os.Started) (H : Type) (enc : TypeId × Value → H) (F : Stop.Interp) :
    ReturnsInHanded {} Tryz.checked os 3 .any ((Rows.OpenSpec.upto Rows.forkRawSpec).preRow enc Tryz.prog Tryz.f3 Rows.forkRawUptoRow.domain false Rows.forkRawUptoRow.laid) (((Rows.OpenSpec.upto Rows.forkRawSpec).at F).post enc Tryz.prog Tryz.f3 false true false false) := by
  obtain ⟨places, hx⟩ := reads os enc
  refine returnsInHanded_of_row (C := Tryz.checked) (s := Rows.OpenSpec.upto Rows.forkRawSpec) own started (by kernel_rfl) Tryz.func3
    (witness_row_at (enc := enc) (C := Tryz.checked) false (World.doorLaid Tryz.prog 400 os) #[noneV, .slice none 0 0] rfl (by kernel_rfl) (by kernel_rfl) (by kernel_rfl)
      (OpenSpec.preRow_of_cond 8 hx (by kernel_rfl) (fun k hk => by cases hk; kernel_rfl) (by kernel_rfl) (door_met os _))) ?_
  intro W base args ds gs before hval0 hW _ hcond _ hL _ _
  have hval : ∀ (j : Nat) t v, Tryz.f3.params[j]? = some t → args[j]? = some v → Value.okWide Tryz.prog W .any base t v := hval0
  have hW' : DataW.Whole enc Tryz.prog Tryz.f3.params.toList Rows.forkRawSpec.vars false W args.toList ds gs before := hW
  have hbd : Rows.uptoBulkAll (ds ++ gs) ≤ 1048576 := of_decide_eq_true (hcond Rows.uptoSmall rfl)
  obtain ⟨p, q, hA0, hV, rfl, _, _⟩ := hW
  have hA : DataW.TrodAll enc Tryz.prog W 0 (fun _ => true) true Tryz.f3.params.toList args.toList ds p := hA0
  rw [Tryz.params3] at hA hval
  obtain ⟨v0, v1, d0, d1, p0, p1, rfl, rfl, rfl, h0, h1⟩ := trodAll_two hA
  obtain ⟨rfl, rfl⟩ := trodVars_none hV
  obtain ⟨s, A, n, c, B, m, k, t, A2, n2, c2, B2, m2, k2, rfl, hl, hp, hl2, hp2, b1, b2, b3, b4⟩ := open_fork (hval 0 29 v0 rfl rfl) h0
  obtain ⟨A3, n3, c3, us, rfl, hr3, _⟩ := open_u8s Tryz.underlying30 Tryz.underlying5 cellsU (hval 1 30 v1 rfl rfl) h1
  simp only [List.append_nil, Rows.uptoBulkAll] at hbd
  clear hA0 hval0
  refine (fkRaw_any s A n c B m k t A2 n2 c2 B2 m2 k2 A3 n3 c3 us W hl hp hl2 hp2 hr3 (by omega) (by omega) (by omega) (by omega) (rounds_of_laid hL)).mono fun e W' ⟨he, hb⟩ => ?_
  subst he
  show ∃ v, Ending.returned (.bool true) = Ending.returned v ∧ Rows.forkRawSpec.post enc Tryz.prog Tryz.f3 false true false false W _ v W'
  exact law_post laidOut (by kernel_rfl) Tryz.underlying4 (by kernel_rfl) rfl hW' rfl hb
theorem over : Rows.ForkRawUptoSaid :=
  OpenClaim.holds_of_cond 3 Tryz.f3 rfl rfl rfl rfl rfl rfl rfl ⟨rfl, rfl, rfl, rfl, rfl⟩ rfl rfl rfl rfl rfl (by kernel_rfl) Tryz.func3 (by kernel_rfl)
    (of_decide_eq_true (by kernel_rfl)) (by unfold Func.isWrapper; first | (rw [if_pos (by decide +kernel)]; kernel_rfl) | (rw [if_neg (by decide +kernel)]; exact ⟨rfl, rfl⟩))
    (fun os started H enc _ F => by rw [OpenClaim.pre_eq_preRow]; exact lifted os started H enc F)
/-- No parameter wants a stand-in; the program's own looks are off. -/
theorem plain (f : FuncId) (fn : Func) (hf : Tryz.pinned.checked.prog.funcNamed "trustflow/trustflowlaw06.ForkRaw" = some f) (hfn : Tryz.pinned.checked.prog.funcs[f]? = some fn) :
    true = Tryz.pinned.checked.prog.looks [] ∧ ∀ (j : Nat) t, fn.params[j]? = some t → Tryz.pinned.checked.prog.wantsStandIn t = false := by
  obtain rfl : f = 3 := Option.some.inj ((show Tryz.prog.funcNamed "trustflow/trustflowlaw06.ForkRaw" = some 3 by kernel_rfl).symm.trans hf) |>.symm
  obtain rfl : fn = Tryz.f3 := (Option.some.inj (Tryz.func3.symm.trans hfn)).symm
  refine ⟨by kernel_rfl, fun j t ht => ?_⟩
  rw [Tryz.params3] at ht
  have hm : t ∈ [29, 30] := by simpa using Array.mem_of_getElem? ht
  have hall : ([29, 30].all fun u => !Tryz.prog.wantsStandIn u) = true := by kernel_rfl
  exact (show Tryz.prog.wantsStandIn t = false by simpa using List.all_eq_true.1 hall t hm)
theorem card_holds : Rows.ForkRawUptoCardSaid :=
  Claim7.holds_tied_plain_at .later [] _ _ _ _ over (fun _ h => by cases h) (by kernel_rfl) (fun _ h => by cases h) forkRawUpto_row_tie rfl ⟨rfl, rfl⟩ (by kernel_rfl) rfl plain (by kernel_rfl)
end Go.Proofs.YtkglgboncngpbaaGreatDoor.forkRawUpto
