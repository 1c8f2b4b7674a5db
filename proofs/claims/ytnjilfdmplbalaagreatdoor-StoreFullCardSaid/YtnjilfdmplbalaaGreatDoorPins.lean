/- The walk of statement.arePins. -/
import Derived.Test.YtnjilfdmplbalaaGreatDoorCheck
import Derived.BigQuiet
import Derived.Outline
namespace Go.Proofs.YtnjilfdmplbalaaGreatDoor
open Go.RowKit
/-- Whether pin i is as it has to be. -/
def pinB (l : List PinD) (i : Nat) : Bool :=
  isKeyB (l.getD i noPin).author && btw (l.getD i noPin).height 1 200 && (((l.getD i noPin).digest.size : Int) == 32) && (i == 0 || decide ((l.getD (i - 1) noPin).author < (l.getD i noPin).author))
def pinsB (l : List PinD) : Bool := (List.range l.length).all (pinB l)
theorem all_no {f : Nat → Bool} {k n : Nat} (hk : k < n) (h : f k = false) : (List.range n).all f = false := by
  rw [List.all_eq_false]; exact ⟨k, List.mem_range.2 hk, by simp [h]⟩
theorem all_more {f : Nat → Bool} {k : Nat} (h : (List.range k).all f = true) (h1 : f k = true) : (List.range (k + 1)).all f = true := by
  rw [List.range_succ, List.all_append, h]; simp [h1]
theorem below_nq {B : Nat} {a w : World} (h : Below B a w) (n : Nat) : Below B a (w.drewN n) := ⟨h.os, h.tape, h.output, h.size, h.block⟩
set_option maxHeartbeats 1000000 in
theorem arePins_any (A : Option Addr) (n c : Nat) (l : List PinD) (w : World) (hr : PRow w A n c l) (hn : n ≤ 1000000) : Calls Tryz.prog 106 #[.slice A n c] w (SaysL (.bool (pinsB l)) w) := by
  have HR := Lib.hid hr; have HL := Lib.hid hr.len; clear hr
  go_enter Tryz.func106, Tryz.ntmps106
  go_wp2
  go_loopw [7] (fun i wr => ∃ k : Nat, k ≤ n ∧ i = .int .i64 k ∧ Hid ((List.range k).all (pinB l) = true ∧ Below w.heap.size w wr)) (fun i _ => n - (intOf i).toNat)
  case atStart => exact ⟨0, Nat.zero_le _, rfl, Lib.hid ⟨rfl, Below.refl _ _⟩⟩
  case round =>
    obtain ⟨k, hk, rfl, HQ⟩ := hrel
    by_cases hlt : k < n
    · obtain ⟨b, off, hA, hc0, hc1, hc2⟩ := (HR.out.later HQ.out.2).cells k hlt
      have hprev : k ≠ 0 → wr.cell? ⟨b, off + (k - 1) * 3, none⟩ = some (.int .i64 (l.getD (k - 1) noPin).author) := by
        intro h0
        obtain ⟨b', off', hA', hp, -, -⟩ := (HR.out.later HQ.out.2).cells (k - 1) (by omega)
        rw [hA] at hA'; injection hA' with hA'; injection hA' with h1 h2; subst h1; subst h2; exact hp
      subst hA
      have HB : Hid (pinB l k = (isKeyB (l.getD k noPin).author && btw (l.getD k noPin).height 1 200 && (((l.getD k noPin).digest.size : Int) == 32) && (k == 0 || decide ((l.getD (k - 1) noPin).author < (l.getD k noPin).author)))) := Lib.hid rfl
      generalize l.getD k noPin = p at hc0 hc1 hc2 HB
      generalize (l.getD (k - 1) noPin).author = q at hprev HB
      have HP := Lib.hid hprev; clear hprev
      have no : pinB l k = false → pinsB l = false := fun h => by rw [pinsB, HL.out]; exact all_no hlt h
      have NO := Lib.hid no; clear no
      go_wp2_with fail
      refine (isKey_any _ _).mono ?_
      rintro e w1 ⟨rfl, rfl⟩
      cases g1 : isKeyB p.author
      · go_wp2
        go_ret
        exact ⟨by rw [NO.out (by rw [HB.out, g1]; rfl)]; rfl, HQ.out.2.alloc HQ.out.2.size _⟩
      go_wp2_with fail
      refine (between_any _ _ _ _).mono ?_
      rintro e w1 ⟨rfl, rfl⟩
      cases g2 : btw p.height 1 200
      · go_wp2
        go_ret
        exact ⟨by rw [NO.out (by rw [HB.out, g1, g2]; rfl)]; rfl, HQ.out.2.alloc HQ.out.2.size _⟩
      cases g3 : ((p.digest.size : Int) == 32)
      · go_wp2
        go_ret
        exact ⟨by rw [NO.out (by rw [HB.out, g1, g2, g3]; rfl)]; rfl, HQ.out.2.alloc HQ.out.2.size _⟩
      have hbw : Below w.heap.size w (wr.alloc (.cells #[.int .i64 p.author, .int .i64 p.height, .string p.digest] 57)) := HQ.out.2.alloc HQ.out.2.size _
      have hn0 : (wr.alloc (.cells #[.int .i64 p.author, .int .i64 p.height, .string p.digest] 57)).cell? ⟨wr.heap.size, 0, none⟩ = some (.int .i64 p.author) := by rw [cell_of_row _ _ _ _ _ _ (heap_alloc_new _ _)]; rfl
      have hn2 : (wr.alloc (.cells #[.int .i64 p.author, .int .i64 p.height, .string p.digest] 57)).cell? ⟨wr.heap.size, 2, none⟩ = some (.string p.digest) := by rw [cell_of_row _ _ _ _ _ _ (heap_alloc_new _ _)]; rfl
      have hpo : k ≠ 0 → (wr.alloc (.cells #[.int .i64 p.author, .int .i64 p.height, .string p.digest] 57)).cell? ⟨b, off + (k - 1) * 3, none⟩ = some (.int .i64 q) := fun h0 => by
        rw [World.cell?_of_block (w := wr) (a := ⟨b, off + (k - 1) * 3, none⟩) ((one_new _ _).block b (World.block_lt_of_cell? wr (a := ⟨b, off + (k - 1) * 3, none⟩) (HP.out h0)))]; exact HP.out h0
      generalize wr.alloc (.cells #[.int .i64 p.author, .int .i64 p.height, .string p.digest] 57) = w2 at hbw hn0 hn2 hpo ⊢
      have HQ1 := Lib.hid HQ.out.1; have HW := Lib.hid hbw; have HPO := Lib.hid hpo; clear hbw hpo HQ hc0 hc1 hc2 HP
      by_cases h0 : k = 0
      · have e0 : decide ((0 : Int) < (k : Int)) = false := by rw [h0]; rfl
        have HK := Lib.hid h0
        go_wp2_with fail
        have h1 : (k : Int) = 0 := by omega
        go_quiet (fail)
        go_wp2
        refine ⟨⟨k + 1, hlt, by go_num, Lib.hid ⟨all_more HQ1.out (by rw [HB.out, g1, g2, g3, HK.out]; rfl), below_nq HW.out _⟩⟩, by simp [intOf]; omega⟩
      · have hp := HPO.out h0
        have e0 : (0 : Int) ≤ (k : Int) - 1 := by omega
        have e1 : (k : Int) - 1 < n := by omega
        have e2 : ((k : Int) - 1).toNat = k - 1 := by omega
        have e3 : (k == 0) = false := by simpa using h0
        have e4 : 0 < k := by omega
        have e5 : decide (0 < k) = true := decide_eq_true e4
        go_wp2_with fail
        go_quiet (fail)
        by_cases g4 : q < p.author
        · have g5 : ¬ p.author ≤ q := by omega
          have g6 : decide (q < p.author) = true := decide_eq_true g4
          have G6 := Lib.hid g6; clear g6
          go_wp2
          refine ⟨⟨k + 1, hlt, by go_num, Lib.hid ⟨all_more HQ1.out (by rw [HB.out, g1, g2, g3, e3, G6.out]; rfl), below_nq HW.out _⟩⟩, by simp [intOf]; omega⟩
        · have g5 : p.author ≤ q := by omega
          have g6 : decide (q < p.author) = false := decide_eq_false g4
          have G6 := Lib.hid g6; clear g6
          go_wp2
          go_ret
          exact ⟨by rw [NO.out (by rw [HB.out, g1, g2, g3, e3, G6.out]; rfl)]; rfl, below_nq HW.out _⟩
    · have HE : Hid (k = n) := by unfold Hid; omega
      go_wp2
      go_ret
      exact ⟨by rw [pinsB, HL.out, ← HE.out, HQ.out.1]; rfl, HQ.out.2⟩
end Go.Proofs.YtnjilfdmplbalaaGreatDoor
