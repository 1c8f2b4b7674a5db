/- Rows of statements that have no lists, and the map of what was found. -/
import Derived.Test.YtnjilfdmplbalaaGreatDoorBehind
import Derived.Test.YtnjilfdmplbalaaGreatDoorMapRow
import Derived.Test.YtnjilfdmplbalaaGreatDoorSeal
namespace Go.Proofs.YtnjilfdmplbalaaGreatDoor
open Go.RowKit
def noStm : Stm := ⟨0, 0, ⟨#[]⟩, 0, 0, 0, 0, 0, [], [], ⟨#[]⟩, 0, ⟨#[]⟩⟩
def cellsS (s : Stm) : List Value := [.int .i64 s.author, .int .i64 s.number, .string s.prev, .int .i64 s.time, .int .i64 s.kind, .int .i64 s.a, .int .i64 s.b, .int .i64 s.c, .slice none 0 0, .slice none 0 0, .string s.body, .int .i64 s.key, .string s.dig]
def stmsC (l : List Stm) : List Value := l.flatMap cellsS
theorem stmsC_len (l : List Stm) : (stmsC l).length = l.length * 13 := by
  induction l with
  | nil => rfl
  | cons s l ih => simp only [stmsC, List.flatMap_cons, List.length_append, List.length_cons] at *; rw [ih]; show 13 + _ = _; omega
theorem stmsC_app (l m : List Stm) : stmsC (l ++ m) = stmsC l ++ stmsC m := by simp [stmsC]
theorem stmsC_single (s : Stm) : stmsC [s] = cellsS s := by simp [stmsC]
theorem stmsC_one (l : List Stm) : ∀ u ∈ stmsC l, u.oneCell' = true := by
  intro u hu
  simp only [stmsC, List.mem_flatMap] at hu
  obtain ⟨s, _, hs⟩ := hu
  simp only [cellsS, List.mem_cons, List.not_mem_nil, or_false] at hs
  rcases hs with h | h | h | h | h | h | h | h | h | h | h | h | h <;> (subst h; rfl)
theorem stmsC_drop (l : List Stm) : ∀ k, (stmsC l).drop (k * 13) = stmsC (l.drop k) := by
  induction l with
  | nil => intro k; simp [stmsC]
  | cons s l ih =>
    intro k
    cases k with
    | zero => rw [Nat.zero_mul]; rfl
    | succ k =>
      rw [List.drop_succ_cons, ← ih k]
      simp only [stmsC, List.flatMap_cons, cellsS]
      rw [show (k + 1) * 13 = k * 13 + 13 by omega]
      rfl
/-- A slice that reads as statements without lists. -/
def SRow (w : World) (A : Option Addr) (n c : Nat) (l : List Stm) : Prop := Row w A n c 13 (stmsC l)
theorem SRow.len {w : World} {A : Option Addr} {n c : Nat} {l : List Stm} (h : SRow w A n c l) : l.length = n := by
  have := Row.len h; rw [stmsC_len] at this; omega
theorem SRow.later {w w' : World} {A : Option Addr} {n c : Nat} {l : List Stm} (h : SRow w A n c l) (hb : Later w w') : SRow w' A n c l := Row.later h hb
set_option maxHeartbeats 1000000 in
/-- The cells of statement k. -/
theorem SRow.cells {w : World} {A : Option Addr} {n c : Nat} {l : List Stm} (h : SRow w A n c l) (k : Nat) (hk : k < n) :
    ∃ b off, A = some ⟨b, off, none⟩ ∧ w.cell? ⟨b, off + k * 13, none⟩ = some (.int .i64 (l.getD k noStm).author) ∧ w.cell? ⟨b, off + k * 13 + 1, none⟩ = some (.int .i64 (l.getD k noStm).number) ∧ w.cell? ⟨b, off + k * 13 + 2, none⟩ = some (.string (l.getD k noStm).prev) ∧ w.cell? ⟨b, off + k * 13 + 3, none⟩ = some (.int .i64 (l.getD k noStm).time) ∧ w.cell? ⟨b, off + k * 13 + 4, none⟩ = some (.int .i64 (l.getD k noStm).kind) ∧ w.cell? ⟨b, off + k * 13 + 5, none⟩ = some (.int .i64 (l.getD k noStm).a) ∧ w.cell? ⟨b, off + k * 13 + 6, none⟩ = some (.int .i64 (l.getD k noStm).b) ∧ w.cell? ⟨b, off + k * 13 + 7, none⟩ = some (.int .i64 (l.getD k noStm).c) ∧ w.cell? ⟨b, off + k * 13 + 8, none⟩ = some (.slice none 0 0) ∧ w.cell? ⟨b, off + k * 13 + 9, none⟩ = some (.slice none 0 0) ∧ w.cell? ⟨b, off + k * 13 + 10, none⟩ = some (.string (l.getD k noStm).body) ∧ w.cell? ⟨b, off + k * 13 + 11, none⟩ = some (.int .i64 (l.getD k noStm).key) ∧ w.cell? ⟨b, off + k * 13 + 12, none⟩ = some (.string (l.getD k noStm).dig) := by
  obtain ⟨b, off, hA, hc⟩ := Row.form h (by omega)
  have hl := h.len
  have h0 : ∀ j, (stmsC l)[k * 13 + j]? = (stmsC (l.drop k))[j]? := fun j => by rw [← stmsC_drop, List.getElem?_drop]
  have h1 : l.drop k = l.getD k noStm :: l.drop (k + 1) := by
    rw [List.drop_eq_getElem_cons (by omega)]; simp [show k < l.length by omega]
  have h2 : ∀ j, j < 13 → w.cell? ⟨b, off + (k * 13 + j), none⟩ = (cellsS (l.getD k noStm))[j]? := fun j hj => by
    rw [hc _ (by omega), h0, h1]
    show (cellsS (l.getD k noStm) ++ stmsC (l.drop (k + 1)))[j]? = _
    rw [List.getElem?_append_left (by show j < 13; exact hj)]
  exact ⟨b, off, hA, h2 0 (by decide), by rw [Nat.add_assoc]; exact h2 1 (by decide), by rw [Nat.add_assoc]; exact h2 2 (by decide), by rw [Nat.add_assoc]; exact h2 3 (by decide), by rw [Nat.add_assoc]; exact h2 4 (by decide), by rw [Nat.add_assoc]; exact h2 5 (by decide), by rw [Nat.add_assoc]; exact h2 6 (by decide), by rw [Nat.add_assoc]; exact h2 7 (by decide), by rw [Nat.add_assoc]; exact h2 8 (by decide), by rw [Nat.add_assoc]; exact h2 9 (by decide), by rw [Nat.add_assoc]; exact h2 10 (by decide), by rw [Nat.add_assoc]; exact h2 11 (by decide), by rw [Nat.add_assoc]; exact h2 12 (by decide)⟩
/-- The statement as a map's element, under its digest. -/
def pairS (s : Stm) : ByteArray × Value := (s.dig, stmV s none 0 0 none 0 0)
/-- Statements of one author, well formed and sealed, no two of one digest. -/
structure Good (au : Int) (l : List Stm) : Prop where
  author : ∀ s ∈ l, s.author = au
  check : ∀ s ∈ l, checkV s = 0
  sealed : ∀ s ∈ l, sealedB s = true
  bare : ∀ s ∈ l, s.list = [] ∧ s.pins = [] ∧ Small s ∧ 0 ≤ s.number ∧ s.number < 200
  nodup : (l.map (·.dig)).Nodup
end Go.Proofs.YtnjilfdmplbalaaGreatDoor
