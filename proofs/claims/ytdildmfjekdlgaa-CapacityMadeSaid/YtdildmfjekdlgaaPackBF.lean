import Derived.Test.YtdildmfjekdlgaaPackAP
import Derived.Test.YtdildmfjekdlgaaPackBC
import Derived.Test.YtdildmfjekdlgaaCaAgreeP
import Derived.Test.YtdildmfjekdlgaaPackBE
import Derived.Test.YtdildmfjekdlgaaPackAA
import Derived.ProofKit
import Derived.OpenShut
import Derived.Carry
import Derived.Handed
import Derived.ChangeMaps5
import Derived.Test.YtdildmfjekdlgaaCaMadeP
/- The walk of capacity's areSeeds. -/
namespace Go.Proofs.Ytdildmfjekdlgaa
open Go.RowKit
set_option maxRecDepth 100000 in
set_option maxHeartbeats 4000000 in
theorem seeds13_any (A : Option Addr) (n c : Nat) (l : List Int) (z : Int) (w : World) (hl : IRow w A n c l) (hn : n ≤ 100000) : Calls Try.prog 42 #[.slice A n c, .int .i64 z] w (SaysL (.bool (setB l z && !decide (l.length = 0))) w) := by
  have HL := Lib.hid hl; have HLN : Hid (l.length = n) := Lib.hid hl.len
  have HV : Hid ((setB l z && !decide (l.length = 0)) = (setB l z && !decide (n = 0))) := Lib.hid (by rw [HLN.out])
  have HBAD : Hid (∀ i, i < n → okSet l z i = false → setB l z = false) := Lib.hid fun i hi h => setB_no (by rw [HLN.out]; exact hi) h
  have HGOOD : Hid ((∀ i, i < n → okSet l z i = true) → setB l z = true) := Lib.hid fun h => setB_yes fun i hi => h i (by rw [← HLN.out]; exact hi)
  have HOK : Hid (∀ i, okSet l z i = (decide (0 ≤ l.getD i 0) && (decide (l.getD i 0 < z) && (decide (i = 0) || decide (l.getD (i - 1) 0 < l.getD i 0))))) := Lib.hid fun _ => rfl
  have HV0 : Hid (setB l z = false → (setB l z && !decide (l.length = 0)) = false) := Lib.hid fun h => by rw [h]; rfl
  generalize (setB l z && !decide (l.length = 0)) = rv at *
  generalize setB l z = sb at *
  clear hl
  go_enter Try.func42, Try.ntmps42
  go_wp2_with fail
  go_loopw [9] (fun i wr => ∃ j : Nat, j ≤ n ∧ i = .int .i64 j ∧ Hid ((∀ q, q < j → okSet l z q = true) ∧ Below w.heap.size w wr)) (fun i _ => n - (intOf i).toNat)
  case atStart => exact ⟨0, Nat.zero_le _, rfl, Lib.hid ⟨fun q h => absurd h (Nat.not_lt_zero _), Below.refl _ _⟩⟩
  case round =>
    obtain ⟨j, hj, rfl, HQ⟩ := hrel
    have HK := Lib.hid HQ.out.1; have HB := Lib.hid HQ.out.2
    clear HQ
    by_cases hlt : j < n
    · have hlt2 : (j : Int) < (n : Int) := by omega
      obtain ⟨b, off, hA, hc⟩ := IRow.cell (HL.out.later HB.out) j hlt
      subst hA
      have HOJ := Lib.hid (HOK.out j)
      rcases Nat.eq_zero_or_pos j with hj0 | hj0
      · have e0 : decide ((j : Int) > 0) = false := decide_eq_false (by omega)
        have e0' : decide ((0 : Int) < (j : Int)) = false := e0
        have e0n : decide (0 < j) = false := decide_eq_false (by omega)
        rw [decide_eq_true hj0, Bool.true_or, Bool.and_true] at HOJ
        clear hj0
        generalize l.getD j 0 = a at *
        by_cases g1 : 0 ≤ a
        · have d1 : decide (a < 0) = false := decide_eq_false (by omega)
          by_cases g2 : a < z
          · have d2 : decide (a ≥ z) = false := decide_eq_false (by omega)
            have d2' : decide (z ≤ a) = false := d2
            rw [decide_eq_true g1, decide_eq_true g2, Bool.true_and] at HOJ
            have HT : Hid (okSet l z j = true) := Lib.hid HOJ.out
            clear g1 g2
            go_wp2_with fail
            exact ⟨⟨j + 1, hlt, by go_num, Lib.hid ⟨fun q hq => (Nat.lt_or_ge q j).elim (fun h => HK.out q h) (fun h => by rw [show q = j by omega]; exact HT.out), HB.out⟩⟩, by simp [intOf]; omega⟩
          · have d2 : decide (a ≥ z) = true := decide_eq_true (by omega)
            have d2' : decide (z ≤ a) = true := d2
            have HE : Hid (sb = false) := Lib.hid (HBAD.out j hlt (by rw [HOJ.out, decide_eq_false g2, Bool.and_false]))
            have HE2 := Lib.hid (HV0.out HE.out)
            clear HE
            clear g1 g2
            go_wp2_with fail
            go_ret
            exact ⟨by rw [HE2.out]; rfl, HB.out⟩
        · have d1 : decide (a < 0) = true := decide_eq_true (by omega)
          have HE : Hid (sb = false) := Lib.hid (HBAD.out j hlt (by rw [HOJ.out, decide_eq_false g1, Bool.false_and]))
          have HE2 := Lib.hid (HV0.out HE.out)
          clear HE
          clear g1
          go_wp2_with fail
          go_ret
          exact ⟨by rw [HE2.out]; rfl, HB.out⟩
      · have e0 : decide ((j : Int) > 0) = true := decide_eq_true (by omega)
        have e0' : decide ((0 : Int) < (j : Int)) = true := e0
        have e0n : decide (0 < j) = true := decide_eq_true hj0
        obtain ⟨q0, hq0⟩ : ∃ q0, j = q0 + 1 := ⟨j - 1, by omega⟩
        have e1 : (0 : Int) ≤ (j : Int) - 1 := by omega
        have e2 : (j : Int) - 1 < (n : Int) := by omega
        have e3 : ((j : Int) - 1).toNat = q0 := by omega
        have m1 : RowKit.wrap64 ((j : Int) - 1) = (j : Int) - 1 := IntWalk.wrap64_in _ (by omega)
        obtain ⟨b2, off2, hA2, hd⟩ := IRow.cell (HL.out.later HB.out) q0 (by omega)
        injection hA2 with hA2
        injection hA2 with i1 i2
        subst i1 i2
        rw [decide_eq_false (by omega : ¬ j = 0), Bool.false_or, show j - 1 = q0 by omega] at HOJ
        clear hj0 hq0
        generalize l.getD j 0 = a at *
        generalize l.getD q0 0 = a1 at *
        by_cases g1 : 0 ≤ a
        · have d1 : decide (a < 0) = false := decide_eq_false (by omega)
          by_cases g2 : a < z
          · have d2 : decide (a ≥ z) = false := decide_eq_false (by omega)
            have d2' : decide (z ≤ a) = false := d2
            rw [decide_eq_true g1, decide_eq_true g2, Bool.true_and, Bool.true_and] at HOJ
            by_cases g3 : a1 < a
            · have d3 : decide (a1 ≥ a) = false := decide_eq_false (by omega)
              have d3' : decide (a ≤ a1) = false := d3
              rw [decide_eq_true g3] at HOJ
              have HT : Hid (okSet l z j = true) := Lib.hid HOJ.out
              clear g1 g2 g3
              go_wp2_with fail
              exact ⟨⟨j + 1, hlt, by go_num, Lib.hid ⟨fun q hq => (Nat.lt_or_ge q j).elim (fun h => HK.out q h) (fun h => by rw [show q = j by omega]; exact HT.out), HB.out⟩⟩, by simp [intOf]; omega⟩
            · have d3 : decide (a1 ≥ a) = true := decide_eq_true (by omega)
              have d3' : decide (a ≤ a1) = true := d3
              have HE : Hid (sb = false) := Lib.hid (HBAD.out j hlt (by rw [HOJ.out, decide_eq_false g3]))
              have HE2 := Lib.hid (HV0.out HE.out)
              clear HE
              clear g1 g2 g3
              go_wp2_with fail
              go_ret
              exact ⟨by rw [HE2.out]; rfl, HB.out⟩
          · have d2 : decide (a ≥ z) = true := decide_eq_true (by omega)
            have d2' : decide (z ≤ a) = true := d2
            have HE : Hid (sb = false) := Lib.hid (HBAD.out j hlt (by rw [HOJ.out, decide_eq_false g2, Bool.false_and, Bool.and_false]))
            have HE2 := Lib.hid (HV0.out HE.out)
            clear HE
            clear g1 g2
            go_wp2_with fail
            go_ret
            exact ⟨by rw [HE2.out]; rfl, HB.out⟩
        · have d1 : decide (a < 0) = true := decide_eq_true (by omega)
          have HE : Hid (sb = false) := Lib.hid (HBAD.out j hlt (by rw [HOJ.out, decide_eq_false g1, Bool.false_and]))
          have HE2 := Lib.hid (HV0.out HE.out)
          clear HE
          clear g1
          go_wp2_with fail
          go_ret
          exact ⟨by rw [HE2.out]; rfl, HB.out⟩
    · have hlt2 : ¬ (j : Int) < (n : Int) := by omega
      have HS : Hid (sb = true) := Lib.hid (HGOOD.out fun q hq => HK.out q (by omega))
      by_cases h0 : 0 < n
      · have d0 : decide ((n : Int) > 0) = true := decide_eq_true (by omega)
        have d0' : decide ((0 : Int) < (n : Int)) = true := d0
        have d0n : decide (0 < n) = true := decide_eq_true h0
        have HE : Hid (rv = true) := Lib.hid (by rw [HV.out, HS.out, decide_eq_false (by omega : ¬ n = 0)]; rfl)
        clear h0
        go_wp2_with fail
        go_ret
        exact ⟨by rw [HE.out]; rfl, HB.out⟩
      · have d0 : decide ((n : Int) > 0) = false := decide_eq_false (by omega)
        have d0' : decide ((0 : Int) < (n : Int)) = false := d0
        have d0n : decide (0 < n) = false := decide_eq_false h0
        have HE : Hid (rv = false) := Lib.hid (by rw [HV.out, HS.out, decide_eq_true (by omega : n = 0)]; rfl)
        clear h0
        go_wp2_with fail
        go_ret
        exact ⟨by rw [HE.out]; rfl, HB.out⟩
end Go.Proofs.Ytdildmfjekdlgaa
/- The walk of capacity's isTable. -/
namespace Go.Proofs.Ytdildmfjekdlgaa
open Go.RowKit
set_option maxRecDepth 100000 in
set_option maxHeartbeats 4000000 in
theorem table13_any (A : Option Addr) (n c : Nat) (l : List Int) (w : World) (hl : IRow w A n c l) (hn : n ≤ 100000) : Calls Try.prog 43 #[.slice A n c] w (SaysL (.bool (tabB l && (decide (1 ≤ l.length) && decide (l.length ≤ 8)))) w) := by
  have HL := Lib.hid hl; have HLN : Hid (l.length = n) := Lib.hid hl.len
  have HV : Hid ((tabB l && (decide (1 ≤ l.length) && decide (l.length ≤ 8))) = (tabB l && (decide (1 ≤ n) && decide (n ≤ 8)))) := Lib.hid (by rw [HLN.out])
  have HBAD : Hid (∀ i, i < n → okT l i = false → tabB l = false) := Lib.hid fun i hi h => tabB_no (by rw [HLN.out]; exact hi) h
  have HGOOD : Hid ((∀ i, i < n → okT l i = true) → tabB l = true) := Lib.hid fun h => tabB_yes fun i hi => h i (by rw [← HLN.out]; exact hi)
  have HOK : Hid (∀ i, okT l i = (decide (1 ≤ l.getD i 0) && (decide (l.getD i 0 ≤ 1000) && (decide (i = 0) || decide (l.getD i 0 ≤ l.getD (i - 1) 0))))) := Lib.hid fun _ => rfl
  have HV0 : Hid (tabB l = false → (tabB l && (decide (1 ≤ l.length) && decide (l.length ≤ 8))) = false) := Lib.hid fun h => by rw [h]; rfl
  generalize (tabB l && (decide (1 ≤ l.length) && decide (l.length ≤ 8))) = rv at *
  generalize tabB l = sb at *
  clear hl
  go_enter Try.func43, Try.ntmps43
  go_wp2_with fail
  go_loopw [7] (fun i wr => ∃ j : Nat, j ≤ n ∧ i = .int .i64 j ∧ Hid ((∀ q, q < j → okT l q = true) ∧ Below w.heap.size w wr)) (fun i _ => n - (intOf i).toNat)
  case atStart => exact ⟨0, Nat.zero_le _, rfl, Lib.hid ⟨fun q h => absurd h (Nat.not_lt_zero _), Below.refl _ _⟩⟩
  case round =>
    obtain ⟨j, hj, rfl, HQ⟩ := hrel
    have HK := Lib.hid HQ.out.1; have HB := Lib.hid HQ.out.2
    clear HQ
    by_cases hlt : j < n
    · have hlt2 : (j : Int) < (n : Int) := by omega
      obtain ⟨b, off, hA, hc⟩ := IRow.cell (HL.out.later HB.out) j hlt
      subst hA
      have HOJ := Lib.hid (HOK.out j)
      rcases Nat.eq_zero_or_pos j with hj0 | hj0
      · have e0 : decide ((j : Int) > 0) = false := decide_eq_false (by omega)
        have e0' : decide ((0 : Int) < (j : Int)) = false := e0
        have e0n : decide (0 < j) = false := decide_eq_false (by omega)
        rw [decide_eq_true hj0, Bool.true_or, Bool.and_true] at HOJ
        clear hj0
        generalize l.getD j 0 = a at *
        by_cases g1 : 1 ≤ a
        · have d1 : decide (a < 1) = false := decide_eq_false (by omega)
          by_cases g2 : a ≤ 1000
          · have d2 : decide (a > 1000) = false := decide_eq_false (by omega)
            have d2' : decide (1000 < a) = false := d2
            rw [decide_eq_true g1, decide_eq_true g2, Bool.true_and] at HOJ
            have HT : Hid (okT l j = true) := Lib.hid HOJ.out
            clear g1 g2
            go_wp2_with fail
            exact ⟨⟨j + 1, hlt, by go_num, Lib.hid ⟨fun q hq => (Nat.lt_or_ge q j).elim (fun h => HK.out q h) (fun h => by rw [show q = j by omega]; exact HT.out), HB.out⟩⟩, by simp [intOf]; omega⟩
          · have d2 : decide (a > 1000) = true := decide_eq_true (by omega)
            have d2' : decide (1000 < a) = true := d2
            have HE : Hid (sb = false) := Lib.hid (HBAD.out j hlt (by rw [HOJ.out, decide_eq_false g2, Bool.and_false]))
            have HE2 := Lib.hid (HV0.out HE.out)
            clear HE
            clear g1 g2
            go_wp2_with fail
            go_ret
            exact ⟨by rw [HE2.out]; rfl, HB.out⟩
        · have d1 : decide (a < 1) = true := decide_eq_true (by omega)
          have HE : Hid (sb = false) := Lib.hid (HBAD.out j hlt (by rw [HOJ.out, decide_eq_false g1, Bool.false_and]))
          have HE2 := Lib.hid (HV0.out HE.out)
          clear HE
          clear g1
          go_wp2_with fail
          go_ret
          exact ⟨by rw [HE2.out]; rfl, HB.out⟩
      · have e0 : decide ((j : Int) > 0) = true := decide_eq_true (by omega)
        have e0' : decide ((0 : Int) < (j : Int)) = true := e0
        have e0n : decide (0 < j) = true := decide_eq_true hj0
        obtain ⟨q0, hq0⟩ : ∃ q0, j = q0 + 1 := ⟨j - 1, by omega⟩
        have e1 : (0 : Int) ≤ (j : Int) - 1 := by omega
        have e2 : (j : Int) - 1 < (n : Int) := by omega
        have e3 : ((j : Int) - 1).toNat = q0 := by omega
        have m1 : RowKit.wrap64 ((j : Int) - 1) = (j : Int) - 1 := IntWalk.wrap64_in _ (by omega)
        obtain ⟨b2, off2, hA2, hd⟩ := IRow.cell (HL.out.later HB.out) q0 (by omega)
        injection hA2 with hA2
        injection hA2 with i1 i2
        subst i1 i2
        rw [decide_eq_false (by omega : ¬ j = 0), Bool.false_or, show j - 1 = q0 by omega] at HOJ
        clear hj0 hq0
        generalize l.getD j 0 = a at *
        generalize l.getD q0 0 = a1 at *
        by_cases g1 : 1 ≤ a
        · have d1 : decide (a < 1) = false := decide_eq_false (by omega)
          by_cases g2 : a ≤ 1000
          · have d2 : decide (a > 1000) = false := decide_eq_false (by omega)
            have d2' : decide (1000 < a) = false := d2
            rw [decide_eq_true g1, decide_eq_true g2, Bool.true_and, Bool.true_and] at HOJ
            by_cases g3 : a ≤ a1
            · have d3 : decide (a1 < a) = false := decide_eq_false (by omega)
              rw [decide_eq_true g3] at HOJ
              have HT : Hid (okT l j = true) := Lib.hid HOJ.out
              clear g1 g2 g3
              go_wp2_with fail
              exact ⟨⟨j + 1, hlt, by go_num, Lib.hid ⟨fun q hq => (Nat.lt_or_ge q j).elim (fun h => HK.out q h) (fun h => by rw [show q = j by omega]; exact HT.out), HB.out⟩⟩, by simp [intOf]; omega⟩
            · have d3 : decide (a1 < a) = true := decide_eq_true (by omega)
              have HE : Hid (sb = false) := Lib.hid (HBAD.out j hlt (by rw [HOJ.out, decide_eq_false g3]))
              have HE2 := Lib.hid (HV0.out HE.out)
              clear HE
              clear g1 g2 g3
              go_wp2_with fail
              go_ret
              exact ⟨by rw [HE2.out]; rfl, HB.out⟩
          · have d2 : decide (a > 1000) = true := decide_eq_true (by omega)
            have d2' : decide (1000 < a) = true := d2
            have HE : Hid (sb = false) := Lib.hid (HBAD.out j hlt (by rw [HOJ.out, decide_eq_false g2, Bool.false_and, Bool.and_false]))
            have HE2 := Lib.hid (HV0.out HE.out)
            clear HE
            clear g1 g2
            go_wp2_with fail
            go_ret
            exact ⟨by rw [HE2.out]; rfl, HB.out⟩
        · have d1 : decide (a < 1) = true := decide_eq_true (by omega)
          have HE : Hid (sb = false) := Lib.hid (HBAD.out j hlt (by rw [HOJ.out, decide_eq_false g1, Bool.false_and]))
          have HE2 := Lib.hid (HV0.out HE.out)
          clear HE
          clear g1
          go_wp2_with fail
          go_ret
          exact ⟨by rw [HE2.out]; rfl, HB.out⟩
    · have hlt2 : ¬ (j : Int) < (n : Int) := by omega
      have HS : Hid (sb = true) := Lib.hid (HGOOD.out fun q hq => HK.out q (by omega))
      by_cases h0 : 0 < n
      · have d0 : decide ((n : Int) > 0) = true := decide_eq_true (by omega)
        have d0' : decide ((0 : Int) < (n : Int)) = true := d0
        have d0n : decide (0 < n) = true := decide_eq_true h0
        by_cases h8 : n ≤ 8
        · have d8 : decide ((n : Int) ≤ 8) = true := decide_eq_true (by omega)
          have d8n : decide (n ≤ 8) = true := decide_eq_true h8
          have HE : Hid (rv = true) := Lib.hid (by rw [HV.out, HS.out, decide_eq_true (by omega : 1 ≤ n), d8n]; rfl)
          clear h0 h8
          go_wp2_with fail
          go_ret
          exact ⟨by rw [HE.out]; rfl, HB.out⟩
        · have d8 : decide ((n : Int) ≤ 8) = false := decide_eq_false (by omega)
          have d8n : decide (n ≤ 8) = false := decide_eq_false h8
          have HE : Hid (rv = false) := Lib.hid (by rw [HV.out, HS.out, d8n, Bool.and_false, Bool.and_false])
          clear h0 h8
          go_wp2_with fail
          go_ret
          exact ⟨by rw [HE.out]; rfl, HB.out⟩
      · have d0 : decide ((n : Int) > 0) = false := decide_eq_false (by omega)
        have d0' : decide ((0 : Int) < (n : Int)) = false := d0
        have d0n : decide (0 < n) = false := decide_eq_false h0
        have HE : Hid (rv = false) := Lib.hid (by rw [HV.out, HS.out, decide_eq_false (by omega : ¬ 1 ≤ n)]; rfl)
        clear h0
        go_wp2_with fail
        go_ret
        exact ⟨by rw [HE.out]; rfl, HB.out⟩
end Go.Proofs.Ytdildmfjekdlgaa
/- The walk of capacity's Check. -/
namespace Go.Proofs.Ytdildmfjekdlgaa
open Go.RowKit
set_option maxRecDepth 100000 in
set_option maxHeartbeats 4000000 in
theorem capChk_any (G : Gr) (gv : Value) (p : Pol) (v : Value) (w : World) (hg : GHold w G gv) (h : PHold w p v) (he : G.es.length ≤ 100000) (hgn : G.gn.length ≤ 100000) (hs : p.sd.length ≤ 100000) (ht : p.tb.length ≤ 100000) : Calls Try.prog 24 #[gv, v] w (SaysL (.int .i64 (checkP G p)) w) := by
  have HGH := Lib.hid hg
  obtain ⟨A9, n9, c9, B9, m9, k9, rfl, g1, g2⟩ := hg
  obtain ⟨A, n, c, B, m, k, rfl, h1, h2⟩ := h
  have HN := Lib.hid ((one_new w (.cells #[.int .i64 G.sz, .slice A9 n9 c9, .slice B9 m9 k9] 31)).trans ((one_new (w.alloc (.cells #[.int .i64 G.sz, .slice A9 n9 c9, .slice B9 m9 k9] 31)) (.cells #[.slice A n c, .slice B m k, .int .i64 p.lv] 24)).mono (by simp)))
  have HG : Hid (((w.alloc (.cells #[.int .i64 G.sz, .slice A9 n9 c9, .slice B9 m9 k9] 31)).alloc (.cells #[.slice A n c, .slice B m k, .int .i64 p.lv] 24)).heap[w.heap.size]? = some (.cells #[.int .i64 G.sz, .slice A9 n9 c9, .slice B9 m9 k9] 31 (0, 0))) := Lib.hid ((Below.heap_alloc _ _ _ (by simp)).trans (heap_alloc_new _ _))
  have HX : Hid (((w.alloc (.cells #[.int .i64 G.sz, .slice A9 n9 c9, .slice B9 m9 k9] 31)).alloc (.cells #[.slice A n c, .slice B m k, .int .i64 p.lv] 24)).heap[w.heap.size + 1]? = some (.cells #[.slice A n c, .slice B m k, .int .i64 p.lv] 24 (0, 0))) := Lib.hid (heap_alloc2_new _ _ _)
  have H1 := Lib.hid h1; have H2 := Lib.hid h2
  have HC : Hid (checkP G p = if okG G = false then 14 else if ((setB p.sd G.sz && !decide (p.sd.length = 0)) && ((tabB p.tb && (decide (1 ≤ p.tb.length) && decide (p.tb.length ≤ 8))) && (decide (1 ≤ p.lv) && decide (p.lv ≤ 3)))) = false then 15 else 0) := Lib.hid (by
    unfold checkP polB polHead
    cases setB p.sd G.sz <;> cases decide (p.sd.length = 0) <;> cases tabB p.tb <;> cases decide (1 ≤ p.tb.length) <;> cases decide (p.tb.length ≤ 8) <;> cases decide (1 ≤ p.lv) <;> cases decide (p.lv ≤ 3) <;> rfl)
  have HCG : Hid (checkG G = if okG G then 0 else 14) := Lib.hid rfl
  have hn : n ≤ 100000 := by rw [← h1.len]; exact hs
  have hm : m ≤ 100000 := by rw [← h2.len]; exact ht
  have HC1 := Lib.hid (fun y (hb : Below w.heap.size w y) => checkGr_any G (.agg #[.int .i64 G.sz, .slice A9 n9 c9, .slice B9 m9 k9]) y (HGH.out.later hb) he hgn)
  have HC2 := Lib.hid (fun y (hb : Below w.heap.size w y) => seeds13_any A n c p.sd G.sz y (h1.later hb) hn)
  have HC3 := Lib.hid (fun y (hb : Below w.heap.size w y) => table13_any B m k p.tb y (h2.later hb) hm)
  generalize checkP G p = CP at *
  generalize checkG G = CG at *
  generalize (setB p.sd G.sz && !decide (p.sd.length = 0)) = bs at *
  generalize (tabB p.tb && (decide (1 ≤ p.tb.length) && decide (p.tb.length ≤ 8))) = bt at *
  clear g1 g2 h1 h2 he hgn hs ht HGH H1 H2 hn hm
  go_enter Try.func24, Try.ntmps24
  go_upto_region 1 with fail
  generalize ((w.alloc (.cells #[.int .i64 G.sz, .slice A9 n9 c9, .slice B9 m9 k9] 31)).alloc (.cells #[.slice A n c, .slice B m k, .int .i64 p.lv] 24)) = y0 at *
  obtain ⟨gb, hgb⟩ : ∃ gb, w.heap.size = gb := ⟨_, rfl⟩
  obtain ⟨pb, hpb⟩ : ∃ pb, gb + 1 = pb := ⟨_, rfl⟩
  rw [hgb] at HX HG ⊢
  rw [hpb] at HX ⊢
  clear hgb hpb
  have HCC := Lib.hid (HC1.out y0 HN.out)
  go_wp2_with (refine wpList_load_row rfl 31 (.tmp 2) rfl gb rfl 31 #[.int .i64 G.sz, .slice A9 n9 c9, .slice B9 m9 k9] (0, 0) _ HG.out Try.underlying31 rfl gr_size ?_)
  refine HCC.out.mono ?_
  rintro e w1 ⟨rfl, hb⟩
  have HW1 := Lib.hid (HN.out.trans (hb.mono HN.out.size))
  replace HX : Hid (w1.heap[pb]? = some (.cells #[.slice A n c, .slice B m k, .int .i64 p.lv] 24 (0, 0))) := Lib.hid ((hb.block _ (Array.getElem?_eq_some_iff.1 HX.out).1).trans HX.out)
  replace HG : Hid (w1.heap[gb]? = some (.cells #[.int .i64 G.sz, .slice A9 n9 c9, .slice B9 m9 k9] 31 (0, 0))) := Lib.hid ((hb.block _ (Array.getElem?_eq_some_iff.1 HG.out).1).trans HG.out)
  clear hb HCC HN
  generalize okG G = bg at *
  cases bg
  · rw [if_neg (by decide)] at HCG
    rw [if_pos rfl] at HC
    have HE := Lib.hid HC.out
    rw [HCG.out]
    go_wp2_with fail
    go_ret
    exact ⟨by rw [HE.out]; rfl, HW1.out⟩
  · rw [if_pos rfl] at HCG
    rw [if_neg (by decide)] at HC
    rw [HCG.out]
    have HCC := Lib.hid (HC2.out w1 HW1.out)
    have hz0 : w1.cell? ⟨gb, 0, none⟩ = some (.int .i64 G.sz) := (cell_of_row _ _ 0 _ _ _ HG.out).trans rfl
    have hp0 : w1.cell? ⟨pb, 0, none⟩ = some (.slice A n c) := (cell_of_row _ _ 0 _ _ _ HX.out).trans rfl
    go_wp2_with fail
    refine HCC.out.mono ?_
    rintro e w2 ⟨rfl, hb⟩
    have HW2 := Lib.hid (HW1.out.trans (hb.mono HW1.out.size))
    replace HX : Hid (w2.heap[pb]? = some (.cells #[.slice A n c, .slice B m k, .int .i64 p.lv] 24 (0, 0))) := Lib.hid ((hb.block _ (Array.getElem?_eq_some_iff.1 HX.out).1).trans HX.out)
    clear hb HCC hz0 hp0 HG
    cases bs
    · rw [Bool.false_and, if_pos rfl] at HC
      have HE := Lib.hid HC.out
      go_wp2_with fail
      go_ret
      exact ⟨by rw [HE.out]; rfl, HW2.out⟩
    · rw [Bool.true_and] at HC
      have HCC := Lib.hid (HC3.out w2 HW2.out)
      have hp1 : w2.cell? ⟨pb, 1, none⟩ = some (.slice B m k) := (cell_of_row _ _ 1 _ _ _ HX.out).trans rfl
      go_wp2_with fail
      refine HCC.out.mono ?_
      rintro e w3 ⟨rfl, hb⟩
      have HW3 := Lib.hid (HW2.out.trans (hb.mono HW2.out.size))
      replace HX : Hid (w3.heap[pb]? = some (.cells #[.slice A n c, .slice B m k, .int .i64 p.lv] 24 (0, 0))) := Lib.hid ((hb.block _ (Array.getElem?_eq_some_iff.1 HX.out).1).trans HX.out)
      clear hb HCC hp1
      have hp2 : w3.cell? ⟨pb, 2, none⟩ = some (.int .i64 p.lv) := (cell_of_row _ _ 2 _ _ _ HX.out).trans rfl
      cases bt
      · rw [Bool.false_and, if_pos rfl] at HC
        have HE := Lib.hid HC.out
        go_wp2_with fail
        go_ret
        exact ⟨by rw [HE.out]; rfl, HW3.out⟩
      · rw [Bool.true_and] at HC
        by_cases c3 : 1 ≤ p.lv
        · have d3 : decide (p.lv < 1) = false := decide_eq_false (by omega)
          rw [decide_eq_true c3, Bool.true_and] at HC
          by_cases c4 : p.lv ≤ 3
          · have d4 : decide (p.lv > 3) = false := decide_eq_false (by omega)
            have d4' : decide (3 < p.lv) = false := d4
            rw [decide_eq_true c4, if_neg (by decide)] at HC
            have HE := Lib.hid HC.out
            clear c3 c4
            go_wp2_with fail
            go_ret
            exact ⟨by rw [HE.out]; rfl, HW3.out⟩
          · have d4 : decide (p.lv > 3) = true := decide_eq_true (by omega)
            have d4' : decide (3 < p.lv) = true := d4
            rw [decide_eq_false c4, if_pos rfl] at HC
            have HE := Lib.hid HC.out
            clear c3 c4
            go_wp2_with fail
            go_ret
            exact ⟨by rw [HE.out]; rfl, HW3.out⟩
        · have d3 : decide (p.lv < 1) = true := decide_eq_true (by omega)
          rw [decide_eq_false c3, Bool.false_and, if_pos rfl] at HC
          have HE := Lib.hid HC.out
          clear c3
          go_wp2_with fail
          go_ret
          exact ⟨by rw [HE.out]; rfl, HW3.out⟩
end Go.Proofs.Ytdildmfjekdlgaa
/- Package capacity gives what the laws want. -/
namespace Go.Proofs.Ytdildmfjekdlgaa
open Go.RowKit
theorem capC : CapC :=
  ⟨fun G gv p v w hg h he hgn hs ht => capChk_any G gv p v w hg h he hgn hs ht,
   fun p v d w h ht => capOf_any p v d w h,
   fun G gv p v w hg hgd h hp => (capAll_any G gv p v w hg hgd h (hp.few hgd.hi)).mono (by
     rintro e w' ⟨v', rfl, ho, hb⟩
     obtain ⟨A, c, rfl, hr⟩ := Row.of_own ho
     exact ⟨A, _, c, rfl, hr, hb⟩),
   fun G gv p v A n c keys w hg hgd h hp hk hn => capBound_any G gv p v A n c keys w hg hgd h hp.tab (hp.few hgd.hi) hk hn⟩
end Go.Proofs.Ytdildmfjekdlgaa
/- What a law's arguments are as rows of cells; what is asked of them behind the call. Plain facts over any program. -/
namespace Go.Proofs.Ytdildmfjekdlgaa
open Go.ChangeShapes Go.WideShapes Go.ChangeAt Go.RowKit
section
variable {H : Type} {enc : TypeId × Value → H} {P : Program} {W W' : World}
/-- A slice of numbers of one kind that came in. -/
theorem open_nums {t e : TypeId} {k : IntKind} (ht : P.underlying t = some (.slice e)) (he : P.underlying e = some (.int k)) (hc : P.cellsOf e = 1) {base : Nat} {v : Value} {d : DataW H} {p : List MemPlace}
    (hval : Value.okWide P W .any base t v) (h : DataW.Trod enc P W 0 (fun _ => true) true t v d p) :
    ∃ (A : Option Addr) (n c : Nat) (zs : List Int), v = .slice A n c ∧ zs.length = n ∧ Row W A n c 1 (zs.map (Value.int k)) ∧ c ≤ maxLen ∧ ∀ z ∈ zs, (Lit.int k z).wf = true := by
  obtain ⟨a1, len, cap, rfl⟩ := okWide_slice ht hval
  obtain ⟨fuel, hf⟩ := h
  rcases open_ints ht he hc hf with ⟨hcs, hx⟩ | ⟨a, len', cap', zs, hcs, _, hl, hm, hz, hx, hcell, hwz⟩
  · simp [Value.cells] at hcs
    obtain ⟨rfl, rfl, rfl⟩ := hcs
    exact ⟨none, 0, 0, [], rfl, rfl, Row.nilRow _ _, Nat.zero_le _, fun _ h => by cases h⟩
  · simp [Value.cells] at hcs
    obtain ⟨rfl, rfl, rfl⟩ := hcs
    simp only [if_true] at hz
    refine ⟨some a, len, cap, zs.take len, rfl, by rw [List.length_take]; omega, ⟨by simp; omega, hl, fun e => (by cases e), fun ad e h0 => ?_⟩, hm, fun z hz' => hwz z (List.mem_of_mem_take hz')⟩
    injection e with e; subst e
    obtain ⟨ab, ao, spot⟩ := a
    have hspot : spot = none := by simpa [Addr.add] using World.cell?_spot (hcell 0 (by omega))
    subst hspot
    refine ⟨ab, ao, rfl, fun i hi => ?_⟩
    rw [Nat.mul_one] at hi
    have := hcell i (by omega)
    rw [Addr.add_lit] at this
    rw [this, List.getElem?_map, List.getElem?_take, if_pos hi, List.getElem?_eq_getElem (by omega)]
    simp [show i < zs.length by omega]
theorem open_i64s {t e : TypeId} (ht : P.underlying t = some (.slice e)) (he : P.underlying e = some (.int .i64)) (hc : P.cellsOf e = 1) {base : Nat} {v : Value} {d : DataW H} {p : List MemPlace}
    (hval : Value.okWide P W .any base t v) (h : DataW.Trod enc P W 0 (fun _ => true) true t v d p) : ∃ (A : Option Addr) (n c : Nat) (l : List Int), v = .slice A n c ∧ Row W A n c 1 (intsV l) ∧ c ≤ maxLen ∧ ∀ z ∈ l, -9223372036854775808 ≤ z ∧ z ≤ 9223372036854775807 := by
  obtain ⟨A, n, c, zs, rfl, _, hr, hm, hw⟩ := open_nums ht he hc hval h
  exact ⟨A, n, c, zs, rfl, hr, hm, fun z hz => bounds_i64 (hw z hz)⟩
theorem trodAll_below (hl : laidOutB P = true) (hb : Below W.heap.size W W') : ∀ {ts : List TypeId} {vs : List Value} {ds : List (DataW H)} {ps : List MemPlace}, (ts.all fun t => P.readableRec t && decide (t < P.types.size)) = true →
    DataW.TrodAll enc P W 0 (fun _ => true) true ts vs ds ps → DataW.TrodAll enc P W' 0 (fun b => decide (b < W.heap.size)) true ts vs ds ps
  | [], [], [], _, _, h => h
  | t :: ts, v :: vs, d :: ds, ps, hB, h => by
    have hlt := DataW.TrodAll.lt h
    obtain ⟨a, b, h1, h2, e⟩ := h
    simp only [List.all_cons, Bool.and_eq_true, decide_eq_true_eq] at hB
    subst e
    exact ⟨a, b, Below.trod hl hB.1.1 hB.1.2 h1 hb (fun x hx => hlt x (List.mem_append_left _ hx)), trodAll_below hl hb (by simpa using hB.2) h2, rfl⟩
/-- Behind a law that answered true and left below the old heap all as it was. -/
theorem law_post {f : Func} {s : ChangeSpec} {tb : TypeId} (hl : laidOutB P = true) (hres : f.resultTypes = #[tb]) (htb : P.underlying tb = some .bool) (hts : (f.params.toList.all fun t => P.readableRec t && decide (t < P.types.size)) = true) (hv : s.vars = [])
    {args : Array Value} {ds gs : List (DataW H)} {before : List MemPlace} (hW : DataW.Whole enc P f.params.toList s.vars false W args.toList ds gs before) (hfn : s.fn H (ds ++ gs) = { results := [.lit (.bool true)], args := ds }) (hb : Below W.heap.size W W') :
    ∃ v, Ending.returned (.bool true) = Ending.returned v ∧ s.post enc P f false true false false W args v W' := by
  have hW' := hW
  obtain ⟨p, q, hA, hV, rfl, _, _⟩ := hW
  refine ⟨_, rfl, ds, gs, _, [], p, [], hW', ?_, ?_, ?_, hb.frame _, fun h => by cases h⟩
  · rw [hfn, hres]; exact trodAll_mk1 (shut_bool htb _)
  · rw [hfn]; exact trodAll_below hl hb hts hA
  · rw [hfn, hv]; exact rfl
end
end Go.Proofs.Ytdildmfjekdlgaa
/-
  PROVED: for every input the law CapacityMade returns true and leaves its argument as it was. Conditions: none but the row's own.
-/
namespace Go.Proofs.Ytdildmfjekdlgaa.capacityMade
open Go.ChangeShapes Go.WideShapes Go.ChangeAt Go.RowKit
theorem own : ownKnob Try.prog.godebug = none := by kernel_rfl
theorem laidOut : laidOutB Try.prog = true := by kernel_rfl
theorem cellsI : Try.prog.cellsOf 3 = 1 := by kernel_rfl
set_option maxRecDepth 100000 in
theorem lifted (os : Os) (started : os.Started) (H : Type) (enc : TypeId × Value → H) :
    ReturnsInHanded {} Try.checked os 4 .any (Rows.capacityMadeSpec.pre6 enc Try.prog Try.f4 Rows.capacityMadeRow.domain false) (Rows.capacityMadeSpec.post enc Try.prog Try.f4 false true false false) := by
  refine returnsInHanded_of_change (C := Try.checked) own started (by kernel_rfl) Try.func4
    (ChangeSpec.witness6 (enc := enc) (C := Try.checked) false ⟨#[], #[.slice none 0 0, .int .i64 0], []⟩ 8 (by kernel_rfl) (by kernel_rfl) (by kernel_rfl) (by kernel_rfl)) ?_
  intro W base args ds gs before hval hW _ _
  have hW' := hW
  obtain ⟨p, q, hA, hV, rfl, _, _⟩ := hW
  rw [Try.params4] at hA hval
  obtain ⟨v0, v1, d0, d1, p0, p1, rfl, rfl, rfl, h0, h1⟩ := trodAll_two hA
  obtain ⟨rfl, rfl⟩ := trodVars_none hV
  obtain ⟨A0, n0, c0, l0, rfl, hr0, _, _⟩ := open_i64s Try.underlying22 Try.underlying3 cellsI (hval 0 22 v0 rfl rfl) h0
  obtain ⟨x1, rfl, _, _, hw1⟩ := open_int Try.underlying3 (hval 1 3 v1 rfl rfl) h1
  skip
  refine (cmade_any capC A0 n0 c0 l0 x1 W hr0).mono fun e W' ⟨he, hb⟩ => ?_
  subst he
  exact law_post laidOut (by kernel_rfl) Try.underlying4 (by kernel_rfl) rfl hW' rfl hb
theorem over : Rows.CapacityMadeSaid :=
  OpenClaim.holds_of_wide 4 Try.f4 rfl rfl rfl rfl rfl rfl rfl ⟨rfl, rfl, rfl, rfl, rfl⟩ rfl rfl rfl rfl rfl (by kernel_rfl) Try.func4 (by kernel_rfl)
    (of_decide_eq_true (by kernel_rfl)) (by unfold Func.isWrapper; first | (rw [if_pos (by decide +kernel)]; kernel_rfl) | (rw [if_neg (by decide +kernel)]; exact ⟨rfl, rfl⟩))
    (fun os started H enc _ => lifted os started H enc)
end Go.Proofs.Ytdildmfjekdlgaa.capacityMade
