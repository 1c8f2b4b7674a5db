/- The walk of chain.isBehind. -/
import Derived.Test.YtnjilfdmplbalaaGreatDoorStructs
import Derived.Test.YtnjilfdmplbalaaGreatDoorForm
namespace Go.Proofs.YtnjilfdmplbalaaGreatDoor
open Go.RowKit
/-- b comes behind a, but for the digest. -/
def behindB (a b : Stm) : Bool := decide (b.author = a.author) && (decide (a.number < b.number) && (decide (b.number - 1 = a.number) && decide (a.time ≤ b.time)))
set_option maxRecDepth 100000 in
set_option maxHeartbeats 1000000 in
theorem isBehind_any (s : Stm) (A : Option Addr) (n c : Nat) (B : Option Addr) (m k : Nat) (o : Stm) (A2 : Option Addr) (n2 c2 : Nat) (B2 : Option Addr) (m2 k2 : Nat) (w : World) (h2 : 0 ≤ o.number ∧ o.number ≤ 1000) :
    Calls Tryz.prog 128 #[stmV s A n c B m k, stmV o A2 n2 c2 B2 m2 k2] w (SaysL (.bool (behindB s o)) w) := by
  obtain ⟨author, number, prev, time, kind, a, b, cc, list, pins, body, key, dig⟩ := s
  obtain ⟨y0, y1, y2, y3, y4, y5, y6, y7, y8, y9, y10, y11, y12⟩ := o
  unfold stmV behindB
  simp only at h2
  simp only
  have HB := Lib.hid ((one_new w (.cells #[.int .i64 author, .int .i64 number, .string prev, .int .i64 time, .int .i64 kind, .int .i64 a, .int .i64 b, .int .i64 cc, .slice A n c, .slice B m k, .string body, .int .i64 key, .string dig] 30)).trans ((one_new (w.alloc (.cells #[.int .i64 author, .int .i64 number, .string prev, .int .i64 time, .int .i64 kind, .int .i64 a, .int .i64 b, .int .i64 cc, .slice A n c, .slice B m k, .string body, .int .i64 key, .string dig] 30)) (.cells #[.int .i64 y0, .int .i64 y1, .string y2, .int .i64 y3, .int .i64 y4, .int .i64 y5, .int .i64 y6, .int .i64 y7, .slice A2 n2 c2, .slice B2 m2 k2, .string y10, .int .i64 y11, .string y12] 30)).mono (by simp)))
  have hx := (Below.heap_alloc (w.alloc (.cells #[.int .i64 author, .int .i64 number, .string prev, .int .i64 time, .int .i64 kind, .int .i64 a, .int .i64 b, .int .i64 cc, .slice A n c, .slice B m k, .string body, .int .i64 key, .string dig] 30)) (.cells #[.int .i64 y0, .int .i64 y1, .string y2, .int .i64 y3, .int .i64 y4, .int .i64 y5, .int .i64 y6, .int .i64 y7, .slice A2 n2 c2, .slice B2 m2 k2, .string y10, .int .i64 y11, .string y12] 30) w.heap.size (by simp)).trans (heap_alloc_new w (.cells #[.int .i64 author, .int .i64 number, .string prev, .int .i64 time, .int .i64 kind, .int .i64 a, .int .i64 b, .int .i64 cc, .slice A n c, .slice B m k, .string body, .int .i64 key, .string dig] 30))
  have hy := heap_alloc_new (w.alloc (.cells #[.int .i64 author, .int .i64 number, .string prev, .int .i64 time, .int .i64 kind, .int .i64 a, .int .i64 b, .int .i64 cc, .slice A n c, .slice B m k, .string body, .int .i64 key, .string dig] 30)) (.cells #[.int .i64 y0, .int .i64 y1, .string y2, .int .i64 y3, .int .i64 y4, .int .i64 y5, .int .i64 y6, .int .i64 y7, .slice A2 n2 c2, .slice B2 m2 k2, .string y10, .int .i64 y11, .string y12] 30)
  rw [show (w.alloc (.cells #[.int .i64 author, .int .i64 number, .string prev, .int .i64 time, .int .i64 kind, .int .i64 a, .int .i64 b, .int .i64 cc, .slice A n c, .slice B m k, .string body, .int .i64 key, .string dig] 30)).heap.size = w.heap.size + 1 by simp] at hy
  obtain ⟨hc0, hc1, hc2, hc3, -, -, -, -, -, -, -, -, -⟩ := stm_cells (A := A) (n := n) (c := c) (B := B) (m := m) (k := k) (s := ⟨author, number, prev, time, kind, a, b, cc, list, pins, body, key, dig⟩) hx
  obtain ⟨hd0, hd1, hd2, hd3, -, -, -, -, -, -, -, -, -⟩ := stm_cells (A := A2) (n := n2) (c := c2) (B := B2) (m := m2) (k := k2) (s := ⟨y0, y1, y2, y3, y4, y5, y6, y7, y8, y9, y10, y11, y12⟩) hy
  clear hx hy hc2 hd2
  by_cases e0 : y0 = author
  · have g0 : (y0 == author) = true := by simpa using e0
    have E0 := Lib.hid e0; clear e0
    by_cases e1 : number < y1
    · have g1 : decide (number < y1) = true := decide_eq_true e1
      have E1 := Lib.hid e1; clear e1
      by_cases e2 : y1 - 1 = number
      · have g2 : (y1 - 1 == number) = true := by simpa using e2
        have E2 := Lib.hid e2; clear e2
        by_cases e3 : time ≤ y3
        · have g3 : decide (time ≤ y3) = true := decide_eq_true e3
          have E3 := Lib.hid e3; clear e3
          go_enter Tryz.func128, Tryz.ntmps128
          go_wp2
          go_ret
          exact ⟨by simp [E0.out, E2.out], HB.out⟩
        · have g3 : decide (time ≤ y3) = false := decide_eq_false e3
          have E3 := Lib.hid e3; clear e3
          go_enter Tryz.func128, Tryz.ntmps128
          go_wp2
          go_ret
          exact ⟨by simp, HB.out⟩
      · have g2 : (y1 - 1 == number) = false := by simpa using e2
        have E2 := Lib.hid e2; clear e2
        go_enter Tryz.func128, Tryz.ntmps128
        go_wp2
        go_ret
        exact ⟨by simp [E2.out], HB.out⟩
    · have g1 : decide (number < y1) = false := decide_eq_false e1
      have E1 := Lib.hid e1; clear e1
      go_enter Tryz.func128, Tryz.ntmps128
      go_wp2
      go_ret
      exact ⟨by simp, HB.out⟩
  · have g0 : (y0 == author) = false := by simpa using e0
    have E0 := Lib.hid e0; clear e0
    go_enter Tryz.func128, Tryz.ntmps128
    go_wp2
    go_ret
    exact ⟨by simp [E0.out], HB.out⟩
end Go.Proofs.YtnjilfdmplbalaaGreatDoor
