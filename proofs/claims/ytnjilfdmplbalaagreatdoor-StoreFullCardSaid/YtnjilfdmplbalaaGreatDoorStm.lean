/- Statements and pins as values of the program: plain facts. -/
import Derived.Test.YtnjilfdmplbalaaGreatDoorWire
namespace Go.Proofs.YtnjilfdmplbalaaGreatDoor
open Go.RowKit
/-- A pin; a statement. -/
structure PinD where
  author : Int
  height : Int
  digest : ByteArray
structure Stm where
  author : Int
  number : Int
  prev : ByteArray
  time : Int
  kind : Int
  a : Int
  b : Int
  c : Int
  list : List Int
  pins : List PinD
  body : ByteArray
  key : Int
  dig : ByteArray
def pinC (p : PinD) : List Value := [.int .i64 p.author, .int .i64 p.height, .string p.digest]
def pinV (p : PinD) : Value := .agg #[.int .i64 p.author, .int .i64 p.height, .string p.digest]
def pinsC (l : List PinD) : List Value := l.flatMap pinC
theorem pinsC_len (l : List PinD) : (pinsC l).length = l.length * 3 := by
  induction l with
  | nil => rfl
  | cons p l ih => simp only [pinsC, List.flatMap_cons, List.length_append, List.length_cons] at ih ⊢; simp only [pinC, List.length_cons, List.length_nil]; omega
theorem pinsC_app (l m : List PinD) : pinsC (l ++ m) = pinsC l ++ pinsC m := by simp [pinsC]
theorem pinsC_one (l : List PinD) : ∀ u ∈ pinsC l, u.oneCell' = true := by
  intro u hu
  simp only [pinsC, List.mem_flatMap, pinC, List.mem_cons, List.not_mem_nil, or_false] at hu
  obtain ⟨p, _, rfl | rfl | rfl⟩ := hu <;> rfl
def noPin : PinD := ⟨0, 0, ⟨#[]⟩⟩
theorem pinsC_drop (l : List PinD) (k : Nat) : (pinsC l).drop (k * 3) = pinsC (l.drop k) := by
  induction l generalizing k with
  | nil => simp [pinsC]
  | cons p l ih =>
    cases k with
    | zero => simp
    | succ k =>
      rw [List.drop_succ_cons, ← ih k]
      simp only [pinsC, List.flatMap_cons, pinC]
      rw [show (k + 1) * 3 = k * 3 + 3 by omega]
      rfl
theorem pinsC_get (l : List PinD) (k : Nat) (h : k < l.length) :
    (pinsC l)[k * 3]? = some (.int .i64 (l.getD k noPin).author) ∧ (pinsC l)[k * 3 + 1]? = some (.int .i64 (l.getD k noPin).height) ∧ (pinsC l)[k * 3 + 2]? = some (.string (l.getD k noPin).digest) := by
  have h0 : ∀ j, (pinsC l)[k * 3 + j]? = (pinsC (l.drop k))[j]? := fun j => by rw [← pinsC_drop, List.getElem?_drop]
  have h1 : l.drop k = l.getD k noPin :: l.drop (k + 1) := by
    rw [List.drop_eq_getElem_cons h]; simp [h]
  have h2 := h0 0; have h3 := h0 1; have h4 := h0 2
  rw [h1] at h2 h3 h4
  exact ⟨h2, h3, h4⟩
/-- A slice that reads as pins. -/
def PRow (w : World) (A : Option Addr) (n c : Nat) (l : List PinD) : Prop := Row w A n c 3 (pinsC l)
theorem PRow.len {w : World} {A : Option Addr} {n c : Nat} {l : List PinD} (h : PRow w A n c l) : l.length = n := by
  have := Row.len h; rw [pinsC_len] at this; omega
theorem PRow.later {w w' : World} {A : Option Addr} {n c : Nat} {l : List PinD} (h : PRow w A n c l) (hb : Later w w') : PRow w' A n c l := Row.later h hb
/-- The cells of pin k. -/
theorem PRow.cells {w : World} {A : Option Addr} {n c : Nat} {l : List PinD} (h : PRow w A n c l) (k : Nat) (hk : k < n) :
    ∃ b off, A = some ⟨b, off, none⟩ ∧ w.cell? ⟨b, off + k * 3, none⟩ = some (.int .i64 (l.getD k noPin).author) ∧ w.cell? ⟨b, off + k * 3 + 1, none⟩ = some (.int .i64 (l.getD k noPin).height) ∧ w.cell? ⟨b, off + k * 3 + 2, none⟩ = some (.string (l.getD k noPin).digest) := by
  obtain ⟨b, off, hA, hc⟩ := Row.form h (by omega)
  have hl := h.len
  obtain ⟨h1, h2, h3⟩ := pinsC_get l k (by omega)
  exact ⟨b, off, hA, by rw [hc _ (by omega), h1], by rw [Nat.add_assoc, hc _ (by omega), h2], by rw [Nat.add_assoc, hc _ (by omega), h3]⟩
/-- A statement as a value: its lists lie where the slices say. -/
def stmV (s : Stm) (A : Option Addr) (n c : Nat) (B : Option Addr) (m k : Nat) : Value :=
  .agg #[.int .i64 s.author, .int .i64 s.number, .string s.prev, .int .i64 s.time, .int .i64 s.kind, .int .i64 s.a, .int .i64 s.b, .int .i64 s.c, .slice A n c, .slice B m k, .string s.body, .int .i64 s.key, .string s.dig]
/-- A value reads as a statement. -/
def StmAt (w : World) (v : Value) (s : Stm) : Prop := ∃ A n c B m k, v = stmV s A n c B m k ∧ IRow w A n c s.list ∧ PRow w B m k s.pins
theorem StmAt.later {w w' : World} {v : Value} {s : Stm} (h : StmAt w v s) (hb : Later w w') : StmAt w' v s := by
  obtain ⟨A, n, c, B, m, k, e, h1, h2⟩ := h
  exact ⟨A, n, c, B, m, k, e, h1.later hb, h2.later hb⟩
end Go.Proofs.YtnjilfdmplbalaaGreatDoor
