/- Equality of seals and pins as the program reckons it. -/
import Derived.Test.YtnjilfdmplbalaaGreatDoorStm
import Derived.Laws.StructEq
import Derived.KernelRfl
namespace Go.Proofs.YtnjilfdmplbalaaGreatDoor
open Go.RowKit
theorem toList_beq (s t : ByteArray) : (s.toList == t.toList) = decide (s = t) := by
  rw [ByteArray.toList_eq, ByteArray.toList_eq]
  obtain ⟨⟨x⟩⟩ := s
  obtain ⟨⟨y⟩⟩ := t
  by_cases h : x = y
  · subst h; simp
  · have h2 : ¬ (ByteArray.mk ⟨x⟩ = ByteArray.mk ⟨y⟩) := fun e => h (by injection e with e; injection e)
    rw [decide_eq_false h2]
    simpa using h
theorem toList_iff (s t : ByteArray) : s.toList = t.toList ↔ s = t := by
  have h := toList_beq s t
  constructor
  · intro e
    rw [e] at h
    simpa using h.symm
  · rintro rfl; rfl
@[go_sem] theorem seal_eq (a b : Int) (s t : ByteArray) (w : World) : (Op.equalIn 10000 28 (.agg #[.int .i64 a, .string s]) (.agg #[.int .i64 b, .string t])).run Tryz.prog w = .ok (decide (a = b) && decide (s = t)) w := by
  have hS : Tryz.prog.underlying 28 = some (.struct (Tryz.prog.fieldsOf 28)) := by kernel_rfl
  have hp : Tryz.prog.stoodInHeld 28 = false := by kernel_rfl
  have u3 := Tryz.underlying3
  have a3 := Tryz.isAgg3
  have u9 := Tryz.underlying9
  have a9 := Tryz.isAgg9
  rw [show (10000 : Nat) = 9999 + 1 from rfl, run_equalIn_agg w 9999 _ _ _ hS hp]
  simp only [Program.fieldsOf, Tryz.underlying28]
  go_simp
  simp only [toList_iff]
  by_cases h1 : a = b <;> by_cases h2 : s = t <;> simp [h1, h2]
@[go_sem] theorem pin_eq (a b c d : Int) (s t : ByteArray) (w : World) : (Op.equalIn 10000 57 (.agg #[.int .i64 a, .int .i64 c, .string s]) (.agg #[.int .i64 b, .int .i64 d, .string t])).run Tryz.prog w = .ok (decide (a = b) && decide (c = d) && decide (s = t)) w := by
  have hS : Tryz.prog.underlying 57 = some (.struct (Tryz.prog.fieldsOf 57)) := by kernel_rfl
  have hp : Tryz.prog.stoodInHeld 57 = false := by kernel_rfl
  have u3 := Tryz.underlying3
  have a3 := Tryz.isAgg3
  have u9 := Tryz.underlying9
  have a9 := Tryz.isAgg9
  rw [show (10000 : Nat) = 9999 + 1 from rfl, run_equalIn_agg w 9999 _ _ _ hS hp]
  simp only [Program.fieldsOf, Tryz.underlying57]
  go_simp
  simp only [toList_iff]
  by_cases h1 : a = b <;> by_cases h2 : c = d <;> by_cases h3 : s = t <;> simp [h1, h2, h3]
@[go_sem] theorem seal_guard (op : BinOp) (x y : Operand) (xs ys : Array Value) (w : World) : (eqGuard op 28 x y (.agg xs) (.agg ys)).run Tryz.prog w = .ok () w := run_eqGuard_agg w op _ x y xs ys (by kernel_rfl)
@[go_sem] theorem pin_guard (op : BinOp) (x y : Operand) (xs ys : Array Value) (w : World) : (eqGuard op 57 x y (.agg xs) (.agg ys)).run Tryz.prog w = .ok () w := run_eqGuard_agg w op _ x y xs ys (by kernel_rfl)
end Go.Proofs.YtnjilfdmplbalaaGreatDoor
