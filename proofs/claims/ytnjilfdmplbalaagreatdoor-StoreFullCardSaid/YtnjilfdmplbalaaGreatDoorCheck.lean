/- The walks of package statement: Check and what it calls. -/
import Derived.Test.YtnjilfdmplbalaaGreatDoorStm
import Derived.BigQuiet
namespace Go.Proofs.YtnjilfdmplbalaaGreatDoor
open Go.RowKit
/-- lo ≤ v ≤ hi. -/
def btw (v lo hi : Int) : Bool := decide (lo ≤ v) && decide (v ≤ hi)
/-- A function that only reads, and answers v. -/
def Says (v : Value) (w : World) (e : Ending) (w' : World) : Prop := e = .returned v ∧ w = w'
theorem between_any (v lo hi : Int) (w : World) : Calls Tryz.prog 75 #[.int .i64 v, .int .i64 lo, .int .i64 hi] w (Says (.bool (btw v lo hi)) w) := by
  cases h1 : decide (lo ≤ v) <;> cases h2 : decide (v ≤ hi)
  all_goals
    go_enter Tryz.func75, Tryz.ntmps75
    go_wp2
    go_ret
    exact ⟨by simp [btw, h1, h2], rfl⟩
def isKeyB (v : Int) : Bool := btw v 0 63
def isValueB (v : Int) : Bool := btw v 0 1099511627776
def isTrustB (v : Int) : Bool := btw v 1 3
def isKindB (v : Int) : Bool := isTrustB v || btw v 10 31
theorem isKey_any (v : Int) (w : World) : Calls Tryz.prog 73 #[.int .i64 v] w (Says (.bool (isKeyB v)) w) := by
  go_enter Tryz.func73, Tryz.ntmps73
  go_wp2_with fail
  refine (between_any _ _ _ _).mono ?_
  rintro e w1 ⟨rfl, rfl⟩
  go_wp2
  go_ret
  exact ⟨rfl, rfl⟩
theorem isValue_any (v : Int) (w : World) : Calls Tryz.prog 103 #[.int .i64 v] w (Says (.bool (isValueB v)) w) := by
  go_enter Tryz.func103, Tryz.ntmps103
  go_wp2_with fail
  refine (between_any _ _ _ _).mono ?_
  rintro e w1 ⟨rfl, rfl⟩
  go_wp2
  go_ret
  exact ⟨rfl, rfl⟩
theorem isTrust_any (v : Int) (w : World) : Calls Tryz.prog 102 #[.int .i64 v] w (Says (.bool (isTrustB v)) w) := by
  go_enter Tryz.func102, Tryz.ntmps102
  go_wp2_with fail
  refine (between_any _ _ _ _).mono ?_
  rintro e w1 ⟨rfl, rfl⟩
  go_wp2
  go_ret
  exact ⟨rfl, rfl⟩
theorem isKind_any (v : Int) (w : World) : Calls Tryz.prog 74 #[.int .i64 v] w (Says (.bool (isKindB v)) w) := by
  go_enter Tryz.func74, Tryz.ntmps74
  go_wp2_with fail
  refine (isTrust_any _ _).mono ?_
  rintro e w1 ⟨rfl, rfl⟩
  cases h : isTrustB v
  · go_wp2_with fail
    refine (between_any _ _ _ _).mono ?_
    rintro e w1 ⟨rfl, rfl⟩
    go_wp2
    go_ret
    exact ⟨by rw [isKindB, h]; rfl, rfl⟩
  · go_wp2
    go_ret
    exact ⟨by rw [isKindB, h]; rfl, rfl⟩
/-- What its kind asks of A, B and C. -/
def fitsB (s : Stm) : Bool :=
  if s.kind = 1 then isKeyB s.a && (s.a != s.author) && btw s.b 1 3 && btw s.c s.time 2147483648
  else if s.kind = 2 then btw s.a 0 199 && (s.b == 0) && (s.c == 0)
  else if s.kind = 3 then (s.a == 0) && (s.b == 0) && (s.c == 0) else true
/-- A function that makes memory of its own, and answers v. -/
def SaysL (v : Value) (w : World) (e : Ending) (w' : World) : Prop := e = .returned v ∧ Below w.heap.size w w'
theorem one_new (w : World) (o : Obj) : Below w.heap.size w (w.alloc o) := (Below.refl _ _).alloc (Nat.le_refl _) _
set_option maxHeartbeats 1000000 in
theorem fitsKind_any (s : Stm) (A : Option Addr) (n c : Nat) (B : Option Addr) (m k : Nat) (w : World) : Calls Tryz.prog 104 #[stmV s A n c B m k] w (SaysL (.bool (fitsB s)) w) := by
  obtain ⟨author, number, prev, time, kind, a, b, cc, list, pins, body, key, dig⟩ := s
  unfold stmV
  go_enter Tryz.func104, Tryz.ntmps104
  by_cases h1 : kind = 1
  · subst h1
    go_wp2_with fail
    refine (isKey_any _ _).mono ?_
    rintro e w1 ⟨rfl, rfl⟩
    cases g1 : isKeyB a
    · go_wp2
      go_ret
      exact ⟨by simp [fitsB, g1], one_new _ _⟩
    cases g2 : (a != author)
    · go_wp2
      go_ret
      exact ⟨by simp [fitsB, g2], one_new _ _⟩
    go_wp2_with fail
    refine (between_any _ _ _ _).mono ?_
    rintro e w1 ⟨rfl, rfl⟩
    cases g3 : btw b 1 3
    · go_wp2
      go_ret
      exact ⟨by simp [fitsB, g3], one_new _ _⟩
    go_wp2_with fail
    refine (between_any _ _ _ _).mono ?_
    rintro e w1 ⟨rfl, rfl⟩
    go_wp2
    go_ret
    exact ⟨by simp [fitsB, g1, g2, g3], one_new _ _⟩
  by_cases h2 : kind = 2
  · subst h2
    go_wp2_with fail
    refine (between_any _ _ _ _).mono ?_
    rintro e w1 ⟨rfl, rfl⟩
    cases g1 : btw a 0 199
    · go_wp2
      go_ret
      exact ⟨by simp [fitsB, g1], one_new _ _⟩
    cases g2 : (b == 0)
    · go_wp2
      go_ret
      exact ⟨by simp [fitsB, g2], one_new _ _⟩
    go_wp2
    go_ret
    exact ⟨by simp [fitsB, g1, g2], one_new _ _⟩
  by_cases h3 : kind = 3
  · subst h3
    cases g1 : (a == 0)
    · go_wp2
      go_ret
      exact ⟨by simp [fitsB, g1], one_new _ _⟩
    cases g2 : (b == 0)
    · go_wp2
      go_ret
      exact ⟨by simp [fitsB, g2], one_new _ _⟩
    go_wp2
    go_ret
    exact ⟨by simp [fitsB, g1, g2], one_new _ _⟩
  have g1 : (kind == 1) = false := by simpa using h1
  have g2 : (kind == 2) = false := by simpa using h2
  have g3 : (kind == 3) = false := by simpa using h3
  go_wp2
  go_ret
  exact ⟨by simp [fitsB, h1, h2, h3], one_new _ _⟩
theorem size_zero {b : ByteArray} (h : b.size = 0) : b = ⟨#[]⟩ := by
  obtain ⟨⟨l⟩⟩ := b
  simp [ByteArray.size] at h
  subst h; rfl
theorem loop_some (b : ByteArray) : ∀ (j i : Nat) (r : List UInt8), b.size - i = j → r ≠ [] → (ByteArray.toList.loop b i r).isEmpty = false := by
  intro j
  induction j with
  | zero =>
    intro i r h hr
    unfold ByteArray.toList.loop
    rw [if_neg (by omega)]
    cases hx : r.reverse.isEmpty with
    | false => rfl
    | true => rw [List.isEmpty_iff, List.reverse_eq_nil_iff] at hx; exact absurd hx hr
  | succ j ih =>
    intro i r h hr
    unfold ByteArray.toList.loop
    rw [if_pos (by omega)]
    exact ih _ _ (by omega) (by simp)
theorem not_empty {b : ByteArray} (h : ¬ b = ⟨#[]⟩) : b.toList.isEmpty = false := by
  have h0 : b.size ≠ 0 := fun he => h (size_zero he)
  unfold ByteArray.toList ByteArray.toList.loop
  rw [if_pos (by omega)]
  exact loop_some b _ _ _ rfl (by simp)
/-- Whether Prev is as it has to be. -/
def prevB (s : Stm) : Bool := if s.number = 0 then decide (s.prev.size = 0) else ((s.prev.size : Int) == 32)
theorem hasPrev_any (s : Stm) (A : Option Addr) (n c : Nat) (B : Option Addr) (m k : Nat) (w : World) : Calls Tryz.prog 105 #[stmV s A n c B m k] w (SaysL (.bool (prevB s)) w) := by
  obtain ⟨author, number, prev, time, kind, a, b, cc, list, pins, body, key, dig⟩ := s
  unfold stmV
  go_enter Tryz.func105, Tryz.ntmps105
  by_cases h1 : number = 0
  · subst h1
    by_cases h2 : prev = ⟨#[]⟩
    · subst h2
      go_wp2
      go_ret
      exact ⟨by simp [prevB]; rfl, one_new _ _⟩
    · have h3 : prev.toList.isEmpty = false := not_empty h2
      have h4 : decide (prev.size = 0) = false := decide_eq_false fun h => h2 (size_zero h)
      go_wp2
      go_ret
      exact ⟨by show _ = Ending.returned (.bool (if (0 : Int) = 0 then decide (prev.size = 0) else _)); rw [if_pos rfl, h4]; rfl, one_new _ _⟩
  have g1 : (number == 0) = false := by simpa using h1
  go_wp2
  go_ret
  exact ⟨by simp [prevB, h1], one_new _ _⟩
end Go.Proofs.YtnjilfdmplbalaaGreatDoor
