/- Equality of seals and pins as the program reckons it. -/
import Derived.Test.YtdioijnhliejpaaDoorStm
import Derived.Laws.StructEq
import Derived.KernelRfl
namespace Go.Proofs.YtdioijnhliejpaaDoor
open Go.RowKit
theorem toList_beq (s t : ByteArray) : (s.toList == t.toList) = decide (s = t) := by
  rw [ByteArray.toList_eq, ByteArray.toList_eq]
  obtain ⟨⟨x⟩⟩ := s
  obtain ⟨⟨y⟩⟩ := t
  by_cases h : x = y
  · subst h; simp
  · have h2 : ¬ (ByteArray.mk ⟨x⟩ = ByteArray.mk ⟨y⟩) := fun e => h (by injection e with e; injection e)
    rw [decide_eq_false h2]
    simpa using h
theorem toList_iff (s t : ByteArray) : s.toList = t.toList ↔ s = t := by
  have h := toList_beq s t
  constructor
  · intro e
    rw [e] at h
    simpa using h.symm
  · rintro rfl; rfl
@[go_sem] theorem seal_eq (a b : Int) (s t : ByteArray) (w : World) : (Op.equalIn 10000 31 (.agg #[.int .i64 a, .string s]) (.agg #[.int .i64 b, .string t])).run Tryd.prog w = .ok (decide (a = b) && decide (s = t)) w := by
  have hS : Tryd.prog.underlying 31 = some (.struct (Tryd.prog.fieldsOf 31)) := by kernel_rfl
  have hp : Tryd.prog.stoodInHeld 31 = false := by kernel_rfl
  have u3 := Tryd.underlying3
  have a3 := Tryd.isAgg3
  have u9 := Tryd.underlying9
  have a9 := Tryd.isAgg9
  rw [show (10000 : Nat) = 9999 + 1 from rfl, run_equalIn_agg w 9999 _ _ _ hS hp]
  simp only [Program.fieldsOf, Tryd.underlying31]
  go_simp
  simp only [toList_iff]
  by_cases h1 : a = b <;> by_cases h2 : s = t <;> simp [h1, h2]
@[go_sem] theorem pin_eq (a b c d : Int) (s t : ByteArray) (w : World) : (Op.equalIn 10000 68 (.agg #[.int .i64 a, .int .i64 c, .string s]) (.agg #[.int .i64 b, .int .i64 d, .string t])).run Tryd.prog w = .ok (decide (a = b) && decide (c = d) && decide (s = t)) w := by
  have hS : Tryd.prog.underlying 68 = some (.struct (Tryd.prog.fieldsOf 68)) := by kernel_rfl
  have hp : Tryd.prog.stoodInHeld 68 = false := by kernel_rfl
  have u3 := Tryd.underlying3
  have a3 := Tryd.isAgg3
  have u9 := Tryd.underlying9
  have a9 := Tryd.isAgg9
  rw [show (10000 : Nat) = 9999 + 1 from rfl, run_equalIn_agg w 9999 _ _ _ hS hp]
  simp only [Program.fieldsOf, Tryd.underlying68]
  go_simp
  simp only [toList_iff]
  by_cases h1 : a = b <;> by_cases h2 : c = d <;> by_cases h3 : s = t <;> simp [h1, h2, h3]
@[go_sem] theorem seal_guard (op : BinOp) (x y : Operand) (xs ys : Array Value) (w : World) : (eqGuard op 31 x y (.agg xs) (.agg ys)).run Tryd.prog w = .ok () w := run_eqGuard_agg w op _ x y xs ys (by kernel_rfl)
@[go_sem] theorem pin_guard (op : BinOp) (x y : Operand) (xs ys : Array Value) (w : World) : (eqGuard op 68 x y (.agg xs) (.agg ys)).run Tryd.prog w = .ok () w := run_eqGuard_agg w op _ x y xs ys (by kernel_rfl)
end Go.Proofs.YtdioijnhliejpaaDoor
