/- The deferred function of statement.read, which recovers. -/
import Derived.Test.YtnlnbakkobmclaaDoorRdStm
import Derived.Defers
import Derived.Recover
namespace Go.Proofs.YtnlnbakkobmclaaDoor
open Go.RowKit
theorem assert_nil (w : World) : (Instr.typeAssert .nilIface 20 80 true).run Tryd.prog w = .ok (.tuple #[.agg #[], .bool false]) w := by kernel_rfl
theorem assert_yes (w : World) (v : Value) : (Instr.typeAssert (.iface 80 v) 20 80 true).run Tryd.prog w = .ok (.tuple #[v, .bool true]) w := by kernel_rfl
set_option maxRecDepth 20000 in
set_option maxHeartbeats 1000000 in
theorem catch_idle (p q : Addr) (w : World) :
    CallsD Tryd.prog 65 #[.pointer (some p), .pointer (some q)] .returning w fun e u' w' => e = .returned (.tuple #[]) ∧ u' = .returning ∧ Below w.heap.size w w' := by
  have hta := assert_nil
  refine callsD_of_wpS Tryd.func65 rfl fun c₀ cs hu => ?_
  apply wpS_seq
  apply wpS_region
  simp [wpOpsS, go_sem, recoverD, hu, Tryd.ntmps65, Exit.thenS, hta]
  apply wpS_seq
  apply wpS_region
  simp [wpOpsS, go_sem, Exit.thenS]
  refine wpS_cond (t := false) (by simp [Act.eval, Array.replicate]) ?_
  simp only [Bool.false_eq_true, if_false]
  refine wpS_of_wp (wp_skip ?_)
  cases c₀
  simp_all [bodyPostS, results, Tryd.results65]
  exact one_new _ _
/-- The statement that is none. -/
def zeroA : Array Value := #[.int .i64 0, .int .i64 0, .string ⟨#[]⟩, .int .i64 0, .int .i64 0, .int .i64 0, .int .i64 0, .int .i64 0, .slice none 0 0, .slice none 0 0, .string ⟨#[]⟩, .int .i64 0, .string ⟨#[]⟩]
set_option maxRecDepth 20000 in
set_option maxHeartbeats 1000000 in
theorem catch_panicking (p q : Nat) (cs0 : Array Value) (b : Bool) (w : World) (hp : w.heap[p]? = some (.cells cs0 27 (0, 0))) (hs : cs0.size = 13) (hq : w.heap[q]? = some (.cells #[.bool b] 4 (0, 0))) (hne : p ≠ q) (older : List PanicEntry) :
    CallsD Tryd.prog 65 #[.pointer (some ⟨p, 0, none⟩), .pointer (some ⟨q, 0, none⟩)] (.panicking (noStm :: older)) w fun e u' w' =>
      e = .returned (.tuple #[]) ∧ u' = .panicking ({ v := .iface 80 (.agg #[]), recovered := true } :: older) ∧ w' = ((w.alloc (.cells #[] 80)).setRow p zeroA).setCell ⟨q, 0, none⟩ (.bool false) := by
  have hta := assert_yes
  refine callsD_of_wpS Tryd.func65 rfl fun c₀ cs hu => ?_
  apply wpS_seq
  apply wpS_region
  simp [wpOpsS, go_sem, recoverD, hu, noStm, Tryd.ntmps65, Exit.thenS, hta]
  apply wpS_seq
  apply wpS_region
  simp [wpOpsS, go_sem, Exit.thenS]
  refine wpS_cond (t := true) (by simp [Act.eval, Array.replicate]) ?_
  simp only [if_true]
  refine wpS_of_wp ?_
  change Code.wp _ _ _ { tmps := #[.pointer (some ⟨p, 0, none⟩), .pointer (some ⟨q, 0, none⟩), .pointer (some ⟨w.heap.size, 0, none⟩), .bool true, .tuple #[.agg #[], .bool true], .iface 80 (.agg #[]), .tuple #[.agg #[], .bool true], .agg #[], .bool true, .bool true, undef], defers := [] } _
  have hbd : ∀ w, (Instr.build 27 #[]).run Tryd.prog w = .ok (.agg zeroA) w := fun w => by kernel_rfl
  have hp1 : (w.alloc (.cells #[] 80)).heap[p]? = some (.cells cs0 27 (0, 0)) := (Below.heap_alloc _ _ _ (Array.getElem?_eq_some_iff.1 hp).1).trans hp
  have hq1 : ((w.alloc (.cells #[] 80)).setRow p zeroA).heap[q]? = some (.cells #[.bool b] 4 (0, 0)) := (setRow_other _ _ _ _ (Ne.symm hne)).trans ((Below.heap_alloc _ _ _ (Array.getElem?_eq_some_iff.1 hq).1).trans hq)
  have hc : ((w.alloc (.cells #[] 80)).setRow p zeroA).cell? ⟨q, 0, none⟩ = some (.bool b) := by rw [cell_of_row _ _ _ _ _ _ hq1]; rfl
  have hz : ((w.alloc (.cells #[] 80)).setRow p zeroA).frozen? ⟨q, 0, none⟩ = false := frozen_of_row _ _ _ _ _ hq1
  go_wp2_with (refine wpList_store_row rfl 27 (.tmp 0) (.tmp 10) rfl p zeroA rfl rfl 27 _ hp1 (by kernel_rfl) hs (by simp [Value.oneCell', zeroA]) ?_)
  simp [bodyPostS, results, Tryd.results65]
end Go.Proofs.YtnlnbakkobmclaaDoor
