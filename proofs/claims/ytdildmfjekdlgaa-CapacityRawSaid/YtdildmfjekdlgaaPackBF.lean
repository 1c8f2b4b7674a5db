import Derived.Test.YtdildmfjekdlgaaPackAP
import Derived.Test.YtdildmfjekdlgaaPackBC
import Derived.Test.YtdildmfjekdlgaaCaAgreeP
import Derived.Test.YtdildmfjekdlgaaPackBE
import Derived.Test.YtdildmfjekdlgaaPackAA
import Derived.ProofKit
import Derived.OpenShut
import Derived.Carry
import Derived.Handed
import Derived.ChangeMaps5
import Derived.Test.YtdildmfjekdlgaaPackAB
import Derived.Test.YtdildmfjekdlgaaRows
import Derived.Deep.Slices
import Derived.Deep.Fields
import Derived.ChangeSame
import Derived.Test.YtdildmfjekdlgaaCaRawP
import Derived.Test.YtdildmfjekdlgaaCaMoreP
/- The walk of capacity's areSeeds. -/
namespace Go.Proofs.Ytdildmfjekdlgaa
open Go.RowKit
set_option maxRecDepth 100000 in
set_option maxHeartbeats 4000000 in
theorem seeds13_any (A : Option Addr) (n c : Nat) (l : List Int) (z : Int) (w : World) (hl : IRow w A n c l) (hn : n ≤ 100000) : Calls Try.prog 42 #[.slice A n c, .int .i64 z] w (SaysL (.bool (setB l z && !decide (l.length = 0))) w) := by
  have HL := Lib.hid hl; have HLN : Hid (l.length = n) := Lib.hid hl.len
  have HV : Hid ((setB l z && !decide (l.length = 0)) = (setB l z && !decide (n = 0))) := Lib.hid (by rw [HLN.out])
  have HBAD : Hid (∀ i, i < n → okSet l z i = false → setB l z = false) := Lib.hid fun i hi h => setB_no (by rw [HLN.out]; exact hi) h
  have HGOOD : Hid ((∀ i, i < n → okSet l z i = true) → setB l z = true) := Lib.hid fun h => setB_yes fun i hi => h i (by rw [← HLN.out]; exact hi)
  have HOK : Hid (∀ i, okSet l z i = (decide (0 ≤ l.getD i 0) && (decide (l.getD i 0 < z) && (decide (i = 0) || decide (l.getD (i - 1) 0 < l.getD i 0))))) := Lib.hid fun _ => rfl
  have HV0 : Hid (setB l z = false → (setB l z && !decide (l.length = 0)) = false) := Lib.hid fun h => by rw [h]; rfl
  generalize (setB l z && !decide (l.length = 0)) = rv at *
  generalize setB l z = sb at *
  clear hl
  go_enter Try.func42, Try.ntmps42
  go_wp2_with fail
  go_loopw [9] (fun i wr => ∃ j : Nat, j ≤ n ∧ i = .int .i64 j ∧ Hid ((∀ q, q < j → okSet l z q = true) ∧ Below w.heap.size w wr)) (fun i _ => n - (intOf i).toNat)
  case atStart => exact ⟨0, Nat.zero_le _, rfl, Lib.hid ⟨fun q h => absurd h (Nat.not_lt_zero _), Below.refl _ _⟩⟩
  case round =>
    obtain ⟨j, hj, rfl, HQ⟩ := hrel
    have HK := Lib.hid HQ.out.1; have HB := Lib.hid HQ.out.2
    clear HQ
    by_cases hlt : j < n
    · have hlt2 : (j : Int) < (n : Int) := by omega
      obtain ⟨b, off, hA, hc⟩ := IRow.cell (HL.out.later HB.out) j hlt
      subst hA
      have HOJ := Lib.hid (HOK.out j)
      rcases Nat.eq_zero_or_pos j with hj0 | hj0
      · have e0 : decide ((j : Int) > 0) = false := decide_eq_false (by omega)
        have e0' : decide ((0 : Int) < (j : Int)) = false := e0
        have e0n : decide (0 < j) = false := decide_eq_false (by omega)
        rw [decide_eq_true hj0, Bool.true_or, Bool.and_true] at HOJ
        clear hj0
        generalize l.getD j 0 = a at *
        by_cases g1 : 0 ≤ a
        · have d1 : decide (a < 0) = false := decide_eq_false (by omega)
          by_cases g2 : a < z
          · have d2 : decide (a ≥ z) = false := decide_eq_false (by omega)
            have d2' : decide (z ≤ a) = false := d2
            rw [decide_eq_true g1, decide_eq_true g2, Bool.true_and] at HOJ
            have HT : Hid (okSet l z j = true) := Lib.hid HOJ.out
            clear g1 g2
            go_wp2_with fail
            exact ⟨⟨j + 1, hlt, by go_num, Lib.hid ⟨fun q hq => (Nat.lt_or_ge q j).elim (fun h => HK.out q h) (fun h => by rw [show q = j by omega]; exact HT.out), HB.out⟩⟩, by simp [intOf]; omega⟩
          · have d2 : decide (a ≥ z) = true := decide_eq_true (by omega)
            have d2' : decide (z ≤ a) = true := d2
            have HE : Hid (sb = false) := Lib.hid (HBAD.out j hlt (by rw [HOJ.out, decide_eq_false g2, Bool.and_false]))
            have HE2 := Lib.hid (HV0.out HE.out)
            clear HE
            clear g1 g2
            go_wp2_with fail
            go_ret
            exact ⟨by rw [HE2.out]; rfl, HB.out⟩
        · have d1 : decide (a < 0) = true := decide_eq_true (by omega)
          have HE : Hid (sb = false) := Lib.hid (HBAD.out j hlt (by rw [HOJ.out, decide_eq_false g1, Bool.false_and]))
          have HE2 := Lib.hid (HV0.out HE.out)
          clear HE
          clear g1
          go_wp2_with fail
          go_ret
          exact ⟨by rw [HE2.out]; rfl, HB.out⟩
      · have e0 : decide ((j : Int) > 0) = true := decide_eq_true (by omega)
        have e0' : decide ((0 : Int) < (j : Int)) = true := e0
        have e0n : decide (0 < j) = true := decide_eq_true hj0
        obtain ⟨q0, hq0⟩ : ∃ q0, j = q0 + 1 := ⟨j - 1, by omega⟩
        have e1 : (0 : Int) ≤ (j : Int) - 1 := by omega
        have e2 : (j : Int) - 1 < (n : Int) := by omega
        have e3 : ((j : Int) - 1).toNat = q0 := by omega
        have m1 : RowKit.wrap64 ((j : Int) - 1) = (j : Int) - 1 := IntWalk.wrap64_in _ (by omega)
        obtain ⟨b2, off2, hA2, hd⟩ := IRow.cell (HL.out.later HB.out) q0 (by omega)
        injection hA2 with hA2
        injection hA2 with i1 i2
        subst i1 i2
        rw [decide_eq_false (by omega : ¬ j = 0), Bool.false_or, show j - 1 = q0 by omega] at HOJ
        clear hj0 hq0
        generalize l.getD j 0 = a at *
        generalize l.getD q0 0 = a1 at *
        by_cases g1 : 0 ≤ a
        · have d1 : decide (a < 0) = false := decide_eq_false (by omega)
          by_cases g2 : a < z
          · have d2 : decide (a ≥ z) = false := decide_eq_false (by omega)
            have d2' : decide (z ≤ a) = false := d2
            rw [decide_eq_true g1, decide_eq_true g2, Bool.true_and, Bool.true_and] at HOJ
            by_cases g3 : a1 < a
            · have d3 : decide (a1 ≥ a) = false := decide_eq_false (by omega)
              have d3' : decide (a ≤ a1) = false := d3
              rw [decide_eq_true g3] at HOJ
              have HT : Hid (okSet l z j = true) := Lib.hid HOJ.out
              clear g1 g2 g3
              go_wp2_with fail
              exact ⟨⟨j + 1, hlt, by go_num, Lib.hid ⟨fun q hq => (Nat.lt_or_ge q j).elim (fun h => HK.out q h) (fun h => by rw [show q = j by omega]; exact HT.out), HB.out⟩⟩, by simp [intOf]; omega⟩
            · have d3 : decide (a1 ≥ a) = true := decide_eq_true (by omega)
              have d3' : decide (a ≤ a1) = true := d3
              have HE : Hid (sb = false) := Lib.hid (HBAD.out j hlt (by rw [HOJ.out, decide_eq_false g3]))
              have HE2 := Lib.hid (HV0.out HE.out)
              clear HE
              clear g1 g2 g3
              go_wp2_with fail
              go_ret
              exact ⟨by rw [HE2.out]; rfl, HB.out⟩
          · have d2 : decide (a ≥ z) = true := decide_eq_true (by omega)
            have d2' : decide (z ≤ a) = true := d2
            have HE : Hid (sb = false) := Lib.hid (HBAD.out j hlt (by rw [HOJ.out, decide_eq_false g2, Bool.false_and, Bool.and_false]))
            have HE2 := Lib.hid (HV0.out HE.out)
            clear HE
            clear g1 g2
            go_wp2_with fail
            go_ret
            exact ⟨by rw [HE2.out]; rfl, HB.out⟩
        · have d1 : decide (a < 0) = true := decide_eq_true (by omega)
          have HE : Hid (sb = false) := Lib.hid (HBAD.out j hlt (by rw [HOJ.out, decide_eq_false g1, Bool.false_and]))
          have HE2 := Lib.hid (HV0.out HE.out)
          clear HE
          clear g1
          go_wp2_with fail
          go_ret
          exact ⟨by rw [HE2.out]; rfl, HB.out⟩
    · have hlt2 : ¬ (j : Int) < (n : Int) := by omega
      have HS : Hid (sb = true) := Lib.hid (HGOOD.out fun q hq => HK.out q (by omega))
      by_cases h0 : 0 < n
      · have d0 : decide ((n : Int) > 0) = true := decide_eq_true (by omega)
        have d0' : decide ((0 : Int) < (n : Int)) = true := d0
        have d0n : decide (0 < n) = true := decide_eq_true h0
        have HE : Hid (rv = true) := Lib.hid (by rw [HV.out, HS.out, decide_eq_false (by omega : ¬ n = 0)]; rfl)
        clear h0
        go_wp2_with fail
        go_ret
        exact ⟨by rw [HE.out]; rfl, HB.out⟩
      · have d0 : decide ((n : Int) > 0) = false := decide_eq_false (by omega)
        have d0' : decide ((0 : Int) < (n : Int)) = false := d0
        have d0n : decide (0 < n) = false := decide_eq_false h0
        have HE : Hid (rv = false) := Lib.hid (by rw [HV.out, HS.out, decide_eq_true (by omega : n = 0)]; rfl)
        clear h0
        go_wp2_with fail
        go_ret
        exact ⟨by rw [HE.out]; rfl, HB.out⟩
end Go.Proofs.Ytdildmfjekdlgaa
/- The walk of capacity's isTable. -/
namespace Go.Proofs.Ytdildmfjekdlgaa
open Go.RowKit
set_option maxRecDepth 100000 in
set_option maxHeartbeats 4000000 in
theorem table13_any (A : Option Addr) (n c : Nat) (l : List Int) (w : World) (hl : IRow w A n c l) (hn : n ≤ 100000) : Calls Try.prog 43 #[.slice A n c] w (SaysL (.bool (tabB l && (decide (1 ≤ l.length) && decide (l.length ≤ 8)))) w) := by
  have HL := Lib.hid hl; have HLN : Hid (l.length = n) := Lib.hid hl.len
  have HV : Hid ((tabB l && (decide (1 ≤ l.length) && decide (l.length ≤ 8))) = (tabB l && (decide (1 ≤ n) && decide (n ≤ 8)))) := Lib.hid (by rw [HLN.out])
  have HBAD : Hid (∀ i, i < n → okT l i = false → tabB l = false) := Lib.hid fun i hi h => tabB_no (by rw [HLN.out]; exact hi) h
  have HGOOD : Hid ((∀ i, i < n → okT l i = true) → tabB l = true) := Lib.hid fun h => tabB_yes fun i hi => h i (by rw [← HLN.out]; exact hi)
  have HOK : Hid (∀ i, okT l i = (decide (1 ≤ l.getD i 0) && (decide (l.getD i 0 ≤ 1000) && (decide (i = 0) || decide (l.getD i 0 ≤ l.getD (i - 1) 0))))) := Lib.hid fun _ => rfl
  have HV0 : Hid (tabB l = false → (tabB l && (decide (1 ≤ l.length) && decide (l.length ≤ 8))) = false) := Lib.hid fun h => by rw [h]; rfl
  generalize (tabB l && (decide (1 ≤ l.length) && decide (l.length ≤ 8))) = rv at *
  generalize tabB l = sb at *
  clear hl
  go_enter Try.func43, Try.ntmps43
  go_wp2_with fail
  go_loopw [7] (fun i wr => ∃ j : Nat, j ≤ n ∧ i = .int .i64 j ∧ Hid ((∀ q, q < j → okT l q = true) ∧ Below w.heap.size w wr)) (fun i _ => n - (intOf i).toNat)
  case atStart => exact ⟨0, Nat.zero_le _, rfl, Lib.hid ⟨fun q h => absurd h (Nat.not_lt_zero _), Below.refl _ _⟩⟩
  case round =>
    obtain ⟨j, hj, rfl, HQ⟩ := hrel
    have HK := Lib.hid HQ.out.1; have HB := Lib.hid HQ.out.2
    clear HQ
    by_cases hlt : j < n
    · have hlt2 : (j : Int) < (n : Int) := by omega
      obtain ⟨b, off, hA, hc⟩ := IRow.cell (HL.out.later HB.out) j hlt
      subst hA
      have HOJ := Lib.hid (HOK.out j)
      rcases Nat.eq_zero_or_pos j with hj0 | hj0
      · have e0 : decide ((j : Int) > 0) = false := decide_eq_false (by omega)
        have e0' : decide ((0 : Int) < (j : Int)) = false := e0
        have e0n : decide (0 < j) = false := decide_eq_false (by omega)
        rw [decide_eq_true hj0, Bool.true_or, Bool.and_true] at HOJ
        clear hj0
        generalize l.getD j 0 = a at *
        by_cases g1 : 1 ≤ a
        · have d1 : decide (a < 1) = false := decide_eq_false (by omega)
          by_cases g2 : a ≤ 1000
          · have d2 : decide (a > 1000) = false := decide_eq_false (by omega)
            have d2' : decide (1000 < a) = false := d2
            rw [decide_eq_true g1, decide_eq_true g2, Bool.true_and] at HOJ
            have HT : Hid (okT l j = true) := Lib.hid HOJ.out
            clear g1 g2
            go_wp2_with fail
            exact ⟨⟨j + 1, hlt, by go_num, Lib.hid ⟨fun q hq => (Nat.lt_or_ge q j).elim (fun h => HK.out q h) (fun h => by rw [show q = j by omega]; exact HT.out), HB.out⟩⟩, by simp [intOf]; omega⟩
          · have d2 : decide (a > 1000) = true := decide_eq_true (by omega)
            have d2' : decide (1000 < a) = true := d2
            have HE : Hid (sb = false) := Lib.hid (HBAD.out j hlt (by rw [HOJ.out, decide_eq_false g2, Bool.and_false]))
            have HE2 := Lib.hid (HV0.out HE.out)
            clear HE
            clear g1 g2
            go_wp2_with fail
            go_ret
            exact ⟨by rw [HE2.out]; rfl, HB.out⟩
        · have d1 : decide (a < 1) = true := decide_eq_true (by omega)
          have HE : Hid (sb = false) := Lib.hid (HBAD.out j hlt (by rw [HOJ.out, decide_eq_false g1, Bool.false_and]))
          have HE2 := Lib.hid (HV0.out HE.out)
          clear HE
          clear g1
          go_wp2_with fail
          go_ret
          exact ⟨by rw [HE2.out]; rfl, HB.out⟩
      · have e0 : decide ((j : Int) > 0) = true := decide_eq_true (by omega)
        have e0' : decide ((0 : Int) < (j : Int)) = true := e0
        have e0n : decide (0 < j) = true := decide_eq_true hj0
        obtain ⟨q0, hq0⟩ : ∃ q0, j = q0 + 1 := ⟨j - 1, by omega⟩
        have e1 : (0 : Int) ≤ (j : Int) - 1 := by omega
        have e2 : (j : Int) - 1 < (n : Int) := by omega
        have e3 : ((j : Int) - 1).toNat = q0 := by omega
        have m1 : RowKit.wrap64 ((j : Int) - 1) = (j : Int) - 1 := IntWalk.wrap64_in _ (by omega)
        obtain ⟨b2, off2, hA2, hd⟩ := IRow.cell (HL.out.later HB.out) q0 (by omega)
        injection hA2 with hA2
        injection hA2 with i1 i2
        subst i1 i2
        rw [decide_eq_false (by omega : ¬ j = 0), Bool.false_or, show j - 1 = q0 by omega] at HOJ
        clear hj0 hq0
        generalize l.getD j 0 = a at *
        generalize l.getD q0 0 = a1 at *
        by_cases g1 : 1 ≤ a
        · have d1 : decide (a < 1) = false := decide_eq_false (by omega)
          by_cases g2 : a ≤ 1000
          · have d2 : decide (a > 1000) = false := decide_eq_false (by omega)
            have d2' : decide (1000 < a) = false := d2
            rw [decide_eq_true g1, decide_eq_true g2, Bool.true_and, Bool.true_and] at HOJ
            by_cases g3 : a ≤ a1
            · have d3 : decide (a1 < a) = false := decide_eq_false (by omega)
              rw [decide_eq_true g3] at HOJ
              have HT : Hid (okT l j = true) := Lib.hid HOJ.out
              clear g1 g2 g3
              go_wp2_with fail
              exact ⟨⟨j + 1, hlt, by go_num, Lib.hid ⟨fun q hq => (Nat.lt_or_ge q j).elim (fun h => HK.out q h) (fun h => by rw [show q = j by omega]; exact HT.out), HB.out⟩⟩, by simp [intOf]; omega⟩
            · have d3 : decide (a1 < a) = true := decide_eq_true (by omega)
              have HE : Hid (sb = false) := Lib.hid (HBAD.out j hlt (by rw [HOJ.out, decide_eq_false g3]))
              have HE2 := Lib.hid (HV0.out HE.out)
              clear HE
              clear g1 g2 g3
              go_wp2_with fail
              go_ret
              exact ⟨by rw [HE2.out]; rfl, HB.out⟩
          · have d2 : decide (a > 1000) = true := decide_eq_true (by omega)
            have d2' : decide (1000 < a) = true := d2
            have HE : Hid (sb = false) := Lib.hid (HBAD.out j hlt (by rw [HOJ.out, decide_eq_false g2, Bool.false_and, Bool.and_false]))
            have HE2 := Lib.hid (HV0.out HE.out)
            clear HE
            clear g1 g2
            go_wp2_with fail
            go_ret
            exact ⟨by rw [HE2.out]; rfl, HB.out⟩
        · have d1 : decide (a < 1) = true := decide_eq_true (by omega)
          have HE : Hid (sb = false) := Lib.hid (HBAD.out j hlt (by rw [HOJ.out, decide_eq_false g1, Bool.false_and]))
          have HE2 := Lib.hid (HV0.out HE.out)
          clear HE
          clear g1
          go_wp2_with fail
          go_ret
          exact ⟨by rw [HE2.out]; rfl, HB.out⟩
    · have hlt2 : ¬ (j : Int) < (n : Int) := by omega
      have HS : Hid (sb = true) := Lib.hid (HGOOD.out fun q hq => HK.out q (by omega))
      by_cases h0 : 0 < n
      · have d0 : decide ((n : Int) > 0) = true := decide_eq_true (by omega)
        have d0' : decide ((0 : Int) < (n : Int)) = true := d0
        have d0n : decide (0 < n) = true := decide_eq_true h0
        by_cases h8 : n ≤ 8
        · have d8 : decide ((n : Int) ≤ 8) = true := decide_eq_true (by omega)
          have d8n : decide (n ≤ 8) = true := decide_eq_true h8
          have HE : Hid (rv = true) := Lib.hid (by rw [HV.out, HS.out, decide_eq_true (by omega : 1 ≤ n), d8n]; rfl)
          clear h0 h8
          go_wp2_with fail
          go_ret
          exact ⟨by rw [HE.out]; rfl, HB.out⟩
        · have d8 : decide ((n : Int) ≤ 8) = false := decide_eq_false (by omega)
          have d8n : decide (n ≤ 8) = false := decide_eq_false h8
          have HE : Hid (rv = false) := Lib.hid (by rw [HV.out, HS.out, d8n, Bool.and_false, Bool.and_false])
          clear h0 h8
          go_wp2_with fail
          go_ret
          exact ⟨by rw [HE.out]; rfl, HB.out⟩
      · have d0 : decide ((n : Int) > 0) = false := decide_eq_false (by omega)
        have d0' : decide ((0 : Int) < (n : Int)) = false := d0
        have d0n : decide (0 < n) = false := decide_eq_false h0
        have HE : Hid (rv = false) := Lib.hid (by rw [HV.out, HS.out, decide_eq_false (by omega : ¬ 1 ≤ n)]; rfl)
        clear h0
        go_wp2_with fail
        go_ret
        exact ⟨by rw [HE.out]; rfl, HB.out⟩
end Go.Proofs.Ytdildmfjekdlgaa
/- The walk of capacity's Check. -/
namespace Go.Proofs.Ytdildmfjekdlgaa
open Go.RowKit
set_option maxRecDepth 100000 in
set_option maxHeartbeats 4000000 in
theorem capChk_any (G : Gr) (gv : Value) (p : Pol) (v : Value) (w : World) (hg : GHold w G gv) (h : PHold w p v) (he : G.es.length ≤ 100000) (hgn : G.gn.length ≤ 100000) (hs : p.sd.length ≤ 100000) (ht : p.tb.length ≤ 100000) : Calls Try.prog 24 #[gv, v] w (SaysL (.int .i64 (checkP G p)) w) := by
  have HGH := Lib.hid hg
  obtain ⟨A9, n9, c9, B9, m9, k9, rfl, g1, g2⟩ := hg
  obtain ⟨A, n, c, B, m, k, rfl, h1, h2⟩ := h
  have HN := Lib.hid ((one_new w (.cells #[.int .i64 G.sz, .slice A9 n9 c9, .slice B9 m9 k9] 31)).trans ((one_new (w.alloc (.cells #[.int .i64 G.sz, .slice A9 n9 c9, .slice B9 m9 k9] 31)) (.cells #[.slice A n c, .slice B m k, .int .i64 p.lv] 24)).mono (by simp)))
  have HG : Hid (((w.alloc (.cells #[.int .i64 G.sz, .slice A9 n9 c9, .slice B9 m9 k9] 31)).alloc (.cells #[.slice A n c, .slice B m k, .int .i64 p.lv] 24)).heap[w.heap.size]? = some (.cells #[.int .i64 G.sz, .slice A9 n9 c9, .slice B9 m9 k9] 31 (0, 0))) := Lib.hid ((Below.heap_alloc _ _ _ (by simp)).trans (heap_alloc_new _ _))
  have HX : Hid (((w.alloc (.cells #[.int .i64 G.sz, .slice A9 n9 c9, .slice B9 m9 k9] 31)).alloc (.cells #[.slice A n c, .slice B m k, .int .i64 p.lv] 24)).heap[w.heap.size + 1]? = some (.cells #[.slice A n c, .slice B m k, .int .i64 p.lv] 24 (0, 0))) := Lib.hid (heap_alloc2_new _ _ _)
  have H1 := Lib.hid h1; have H2 := Lib.hid h2
  have HC : Hid (checkP G p = if okG G = false then 14 else if ((setB p.sd G.sz && !decide (p.sd.length = 0)) && ((tabB p.tb && (decide (1 ≤ p.tb.length) && decide (p.tb.length ≤ 8))) && (decide (1 ≤ p.lv) && decide (p.lv ≤ 3)))) = false then 15 else 0) := Lib.hid (by
    unfold checkP polB polHead
    cases setB p.sd G.sz <;> cases decide (p.sd.length = 0) <;> cases tabB p.tb <;> cases decide (1 ≤ p.tb.length) <;> cases decide (p.tb.length ≤ 8) <;> cases decide (1 ≤ p.lv) <;> cases decide (p.lv ≤ 3) <;> rfl)
  have HCG : Hid (checkG G = if okG G then 0 else 14) := Lib.hid rfl
  have hn : n ≤ 100000 := by rw [← h1.len]; exact hs
  have hm : m ≤ 100000 := by rw [← h2.len]; exact ht
  have HC1 := Lib.hid (fun y (hb : Below w.heap.size w y) => checkGr_any G (.agg #[.int .i64 G.sz, .slice A9 n9 c9, .slice B9 m9 k9]) y (HGH.out.later hb) he hgn)
  have HC2 := Lib.hid (fun y (hb : Below w.heap.size w y) => seeds13_any A n c p.sd G.sz y (h1.later hb) hn)
  have HC3 := Lib.hid (fun y (hb : Below w.heap.size w y) => table13_any B m k p.tb y (h2.later hb) hm)
  generalize checkP G p = CP at *
  generalize checkG G = CG at *
  generalize (setB p.sd G.sz && !decide (p.sd.length = 0)) = bs at *
  generalize (tabB p.tb && (decide (1 ≤ p.tb.length) && decide (p.tb.length ≤ 8))) = bt at *
  clear g1 g2 h1 h2 he hgn hs ht HGH H1 H2 hn hm
  go_enter Try.func24, Try.ntmps24
  go_upto_region 1 with fail
  generalize ((w.alloc (.cells #[.int .i64 G.sz, .slice A9 n9 c9, .slice B9 m9 k9] 31)).alloc (.cells #[.slice A n c, .slice B m k, .int .i64 p.lv] 24)) = y0 at *
  obtain ⟨gb, hgb⟩ : ∃ gb, w.heap.size = gb := ⟨_, rfl⟩
  obtain ⟨pb, hpb⟩ : ∃ pb, gb + 1 = pb := ⟨_, rfl⟩
  rw [hgb] at HX HG ⊢
  rw [hpb] at HX ⊢
  clear hgb hpb
  have HCC := Lib.hid (HC1.out y0 HN.out)
  go_wp2_with (refine wpList_load_row rfl 31 (.tmp 2) rfl gb rfl 31 #[.int .i64 G.sz, .slice A9 n9 c9, .slice B9 m9 k9] (0, 0) _ HG.out Try.underlying31 rfl gr_size ?_)
  refine HCC.out.mono ?_
  rintro e w1 ⟨rfl, hb⟩
  have HW1 := Lib.hid (HN.out.trans (hb.mono HN.out.size))
  replace HX : Hid (w1.heap[pb]? = some (.cells #[.slice A n c, .slice B m k, .int .i64 p.lv] 24 (0, 0))) := Lib.hid ((hb.block _ (Array.getElem?_eq_some_iff.1 HX.out).1).trans HX.out)
  replace HG : Hid (w1.heap[gb]? = some (.cells #[.int .i64 G.sz, .slice A9 n9 c9, .slice B9 m9 k9] 31 (0, 0))) := Lib.hid ((hb.block _ (Array.getElem?_eq_some_iff.1 HG.out).1).trans HG.out)
  clear hb HCC HN
  generalize okG G = bg at *
  cases bg
  · rw [if_neg (by decide)] at HCG
    rw [if_pos rfl] at HC
    have HE := Lib.hid HC.out
    rw [HCG.out]
    go_wp2_with fail
    go_ret
    exact ⟨by rw [HE.out]; rfl, HW1.out⟩
  · rw [if_pos rfl] at HCG
    rw [if_neg (by decide)] at HC
    rw [HCG.out]
    have HCC := Lib.hid (HC2.out w1 HW1.out)
    have hz0 : w1.cell? ⟨gb, 0, none⟩ = some (.int .i64 G.sz) := (cell_of_row _ _ 0 _ _ _ HG.out).trans rfl
    have hp0 : w1.cell? ⟨pb, 0, none⟩ = some (.slice A n c) := (cell_of_row _ _ 0 _ _ _ HX.out).trans rfl
    go_wp2_with fail
    refine HCC.out.mono ?_
    rintro e w2 ⟨rfl, hb⟩
    have HW2 := Lib.hid (HW1.out.trans (hb.mono HW1.out.size))
    replace HX : Hid (w2.heap[pb]? = some (.cells #[.slice A n c, .slice B m k, .int .i64 p.lv] 24 (0, 0))) := Lib.hid ((hb.block _ (Array.getElem?_eq_some_iff.1 HX.out).1).trans HX.out)
    clear hb HCC hz0 hp0 HG
    cases bs
    · rw [Bool.false_and, if_pos rfl] at HC
      have HE := Lib.hid HC.out
      go_wp2_with fail
      go_ret
      exact ⟨by rw [HE.out]; rfl, HW2.out⟩
    · rw [Bool.true_and] at HC
      have HCC := Lib.hid (HC3.out w2 HW2.out)
      have hp1 : w2.cell? ⟨pb, 1, none⟩ = some (.slice B m k) := (cell_of_row _ _ 1 _ _ _ HX.out).trans rfl
      go_wp2_with fail
      refine HCC.out.mono ?_
      rintro e w3 ⟨rfl, hb⟩
      have HW3 := Lib.hid (HW2.out.trans (hb.mono HW2.out.size))
      replace HX : Hid (w3.heap[pb]? = some (.cells #[.slice A n c, .slice B m k, .int .i64 p.lv] 24 (0, 0))) := Lib.hid ((hb.block _ (Array.getElem?_eq_some_iff.1 HX.out).1).trans HX.out)
      clear hb HCC hp1
      have hp2 : w3.cell? ⟨pb, 2, none⟩ = some (.int .i64 p.lv) := (cell_of_row _ _ 2 _ _ _ HX.out).trans rfl
      cases bt
      · rw [Bool.false_and, if_pos rfl] at HC
        have HE := Lib.hid HC.out
        go_wp2_with fail
        go_ret
        exact ⟨by rw [HE.out]; rfl, HW3.out⟩
      · rw [Bool.true_and] at HC
        by_cases c3 : 1 ≤ p.lv
        · have d3 : decide (p.lv < 1) = false := decide_eq_false (by omega)
          rw [decide_eq_true c3, Bool.true_and] at HC
          by_cases c4 : p.lv ≤ 3
          · have d4 : decide (p.lv > 3) = false := decide_eq_false (by omega)
            have d4' : decide (3 < p.lv) = false := d4
            rw [decide_eq_true c4, if_neg (by decide)] at HC
            have HE := Lib.hid HC.out
            clear c3 c4
            go_wp2_with fail
            go_ret
            exact ⟨by rw [HE.out]; rfl, HW3.out⟩
          · have d4 : decide (p.lv > 3) = true := decide_eq_true (by omega)
            have d4' : decide (3 < p.lv) = true := d4
            rw [decide_eq_false c4, if_pos rfl] at HC
            have HE := Lib.hid HC.out
            clear c3 c4
            go_wp2_with fail
            go_ret
            exact ⟨by rw [HE.out]; rfl, HW3.out⟩
        · have d3 : decide (p.lv < 1) = true := decide_eq_true (by omega)
          rw [decide_eq_false c3, Bool.false_and, if_pos rfl] at HC
          have HE := Lib.hid HC.out
          clear c3
          go_wp2_with fail
          go_ret
          exact ⟨by rw [HE.out]; rfl, HW3.out⟩
end Go.Proofs.Ytdildmfjekdlgaa
/- Package capacity gives what the laws want. -/
namespace Go.Proofs.Ytdildmfjekdlgaa
open Go.RowKit
theorem capC : CapC :=
  ⟨fun G gv p v w hg h he hgn hs ht => capChk_any G gv p v w hg h he hgn hs ht,
   fun p v d w h ht => capOf_any p v d w h,
   fun G gv p v w hg hgd h hp => (capAll_any G gv p v w hg hgd h (hp.few hgd.hi)).mono (by
     rintro e w' ⟨v', rfl, ho, hb⟩
     obtain ⟨A, c, rfl, hr⟩ := Row.of_own ho
     exact ⟨A, _, c, rfl, hr, hb⟩),
   fun G gv p v A n c keys w hg hgd h hp hk hn => capBound_any G gv p v A n c keys w hg hgd h hp.tab (hp.few hgd.hi) hk hn⟩
end Go.Proofs.Ytdildmfjekdlgaa
/- What a law's arguments are as rows of cells; what is asked of them behind the call. Plain facts over any program. -/
namespace Go.Proofs.Ytdildmfjekdlgaa
open Go.ChangeShapes Go.WideShapes Go.ChangeAt Go.RowKit
section
variable {H : Type} {enc : TypeId × Value → H} {P : Program} {W W' : World}
/-- A slice of numbers of one kind that came in. -/
theorem open_nums {t e : TypeId} {k : IntKind} (ht : P.underlying t = some (.slice e)) (he : P.underlying e = some (.int k)) (hc : P.cellsOf e = 1) {base : Nat} {v : Value} {d : DataW H} {p : List MemPlace}
    (hval : Value.okWide P W .any base t v) (h : DataW.Trod enc P W 0 (fun _ => true) true t v d p) :
    ∃ (A : Option Addr) (n c : Nat) (zs : List Int), v = .slice A n c ∧ zs.length = n ∧ Row W A n c 1 (zs.map (Value.int k)) ∧ c ≤ maxLen ∧ ∀ z ∈ zs, (Lit.int k z).wf = true := by
  obtain ⟨a1, len, cap, rfl⟩ := okWide_slice ht hval
  obtain ⟨fuel, hf⟩ := h
  rcases open_ints ht he hc hf with ⟨hcs, hx⟩ | ⟨a, len', cap', zs, hcs, _, hl, hm, hz, hx, hcell, hwz⟩
  · simp [Value.cells] at hcs
    obtain ⟨rfl, rfl, rfl⟩ := hcs
    exact ⟨none, 0, 0, [], rfl, rfl, Row.nilRow _ _, Nat.zero_le _, fun _ h => by cases h⟩
  · simp [Value.cells] at hcs
    obtain ⟨rfl, rfl, rfl⟩ := hcs
    simp only [if_true] at hz
    refine ⟨some a, len, cap, zs.take len, rfl, by rw [List.length_take]; omega, ⟨by simp; omega, hl, fun e => (by cases e), fun ad e h0 => ?_⟩, hm, fun z hz' => hwz z (List.mem_of_mem_take hz')⟩
    injection e with e; subst e
    obtain ⟨ab, ao, spot⟩ := a
    have hspot : spot = none := by simpa [Addr.add] using World.cell?_spot (hcell 0 (by omega))
    subst hspot
    refine ⟨ab, ao, rfl, fun i hi => ?_⟩
    rw [Nat.mul_one] at hi
    have := hcell i (by omega)
    rw [Addr.add_lit] at this
    rw [this, List.getElem?_map, List.getElem?_take, if_pos hi, List.getElem?_eq_getElem (by omega)]
    simp [show i < zs.length by omega]
theorem open_i64s {t e : TypeId} (ht : P.underlying t = some (.slice e)) (he : P.underlying e = some (.int .i64)) (hc : P.cellsOf e = 1) {base : Nat} {v : Value} {d : DataW H} {p : List MemPlace}
    (hval : Value.okWide P W .any base t v) (h : DataW.Trod enc P W 0 (fun _ => true) true t v d p) : ∃ (A : Option Addr) (n c : Nat) (l : List Int), v = .slice A n c ∧ Row W A n c 1 (intsV l) ∧ c ≤ maxLen ∧ ∀ z ∈ l, -9223372036854775808 ≤ z ∧ z ≤ 9223372036854775807 := by
  obtain ⟨A, n, c, zs, rfl, _, hr, hm, hw⟩ := open_nums ht he hc hval h
  exact ⟨A, n, c, zs, rfl, hr, hm, fun z hz => bounds_i64 (hw z hz)⟩
theorem trodAll_below (hl : laidOutB P = true) (hb : Below W.heap.size W W') : ∀ {ts : List TypeId} {vs : List Value} {ds : List (DataW H)} {ps : List MemPlace}, (ts.all fun t => P.readableRec t && decide (t < P.types.size)) = true →
    DataW.TrodAll enc P W 0 (fun _ => true) true ts vs ds ps → DataW.TrodAll enc P W' 0 (fun b => decide (b < W.heap.size)) true ts vs ds ps
  | [], [], [], _, _, h => h
  | t :: ts, v :: vs, d :: ds, ps, hB, h => by
    have hlt := DataW.TrodAll.lt h
    obtain ⟨a, b, h1, h2, e⟩ := h
    simp only [List.all_cons, Bool.and_eq_true, decide_eq_true_eq] at hB
    subst e
    exact ⟨a, b, Below.trod hl hB.1.1 hB.1.2 h1 hb (fun x hx => hlt x (List.mem_append_left _ hx)), trodAll_below hl hb (by simpa using hB.2) h2, rfl⟩
/-- Behind a law that answered true and left below the old heap all as it was. -/
theorem law_post {f : Func} {s : ChangeSpec} {tb : TypeId} (hl : laidOutB P = true) (hres : f.resultTypes = #[tb]) (htb : P.underlying tb = some .bool) (hts : (f.params.toList.all fun t => P.readableRec t && decide (t < P.types.size)) = true) (hv : s.vars = [])
    {args : Array Value} {ds gs : List (DataW H)} {before : List MemPlace} (hW : DataW.Whole enc P f.params.toList s.vars false W args.toList ds gs before) (hfn : s.fn H (ds ++ gs) = { results := [.lit (.bool true)], args := ds }) (hb : Below W.heap.size W W') :
    ∃ v, Ending.returned (.bool true) = Ending.returned v ∧ s.post enc P f false true false false W args v W' := by
  have hW' := hW
  obtain ⟨p, q, hA, hV, rfl, _, _⟩ := hW
  refine ⟨_, rfl, ds, gs, _, [], p, [], hW', ?_, ?_, ?_, hb.frame _, fun h => by cases h⟩
  · rw [hfn, hres]; exact trodAll_mk1 (shut_bool htb _)
  · rw [hfn]; exact trodAll_below hl hb hts hA
  · rw [hfn, hv]; exact rfl
end
end Go.Proofs.Ytdildmfjekdlgaa
/- A statement that came in as an argument: its parts and how much it is. -/
namespace Go.Proofs.Ytdildmfjekdlgaa
open Go.ChangeShapes Go.WideShapes Go.RowKit Go.Deep
section
variable {H : Type} {enc : TypeId × Value → H} {W : World}
theorem cellsInt : Try.prog.cellsOf 3 = 1 := by kernel_rfl
theorem cellsInts : Try.prog.cellsOf 22 = 1 := by kernel_rfl
theorem part_at {t : TypeId} {n k z : Nat} {cs l : List Value} {y : Option (DataW H × List MemPlace)} (hc : Try.prog.cellsOf t = z) (h : DataW.trod enc Try.prog W 0 (fun _ => true) true n t (List.take (Try.prog.cellsOf t) (List.drop k cs)) = y) (hd : List.take z (List.drop k cs) = l) :
    DataW.trod enc Try.prog W 0 (fun _ => true) true n t l = y := by
  rw [hc, hd] at h; exact h
/-- A slice of ints among the parts of an argument. -/
theorem part_ints {fuel : Nat} {v : Value} {x : DataW H × List MemPlace} (h : DataW.trod enc Try.prog W 0 (fun _ => true) true fuel 22 [v] = some x) :
    ∃ (A : Option Addr) (n c : Nat) (l : List Int), v = .slice A n c ∧ IRow W A n c l := by
  rcases open_ints Try.underlying22 Try.underlying3 cellsInt h with ⟨hcs, hx⟩ | ⟨a, len, cap, zs, hcs, _, hl, hm, hz, hx, hcell, hwz⟩
  · injection hcs with e _
    exact ⟨none, 0, 0, [], e, Row.nilRow _ _⟩
  · injection hcs with e _
    simp only [if_true] at hz
    refine ⟨some a, len, cap, zs.take len, e, ⟨by rw [intsV_len, List.length_take]; omega, hl, fun e => (by cases e), fun ad e h0 => ?_⟩⟩
    injection e with e; subst e
    obtain ⟨ab, ao, spot⟩ := a
    have hspot : spot = none := by simpa [Addr.add] using World.cell?_spot (hcell 0 (by omega))
    subst hspot
    refine ⟨ab, ao, rfl, fun i hi => ?_⟩
    rw [Nat.mul_one] at hi
    have := hcell i (by omega)
    rw [Addr.add_lit] at this
    rw [this, intsV, List.getElem?_map, List.getElem?_take, if_pos hi, List.getElem?_eq_getElem (by omega)]
    simp [show i < zs.length by omega, iv]
end
end Go.Proofs.Ytdildmfjekdlgaa
/- A policy that came in as an argument. -/
namespace Go.Proofs.Ytdildmfjekdlgaa
open Go.RowKit
open Go.ChangeShapes Go.WideShapes Go.Deep
section
variable {H : Type} {enc : TypeId × Value → H} {W : World}
theorem cellsPol : Try.prog.cellsOf 24 = 3 := by kernel_rfl
set_option maxRecDepth 100000 in
/-- A policy that came in. -/
theorem open_policy {base : Nat} {v : Value} {d : DataW H} {p : List MemPlace} (hval : Value.okWide Try.prog W .any base 24 v) (h : DataW.Trod enc Try.prog W 0 (fun _ => true) true 24 v d p) : ∃ q : Pol, PHold W q v := by
  obtain ⟨cs, rfl, hsz⟩ := okWide_struct Try.underlying24 hval
  obtain ⟨l⟩ := cs
  match l, hsz.trans cellsPol with
  | [c0, c1, c2], _ =>
    obtain ⟨fuel, hf⟩ := h
    obtain ⟨xs, n, _, hx, _, hlen, hg⟩ := DataW.trod_struct Try.underlying24 hf
    match xs, hlen with
    | [y0, y1, y2], _ =>
      have g0 : DataW.trod enc Try.prog W 0 (fun _ => true) true n 22 [c0] = some y0 := part_at (k := 0) cellsInts (hg 0 _ rfl) rfl
      have g1 : DataW.trod enc Try.prog W 0 (fun _ => true) true n 22 [c1] = some y1 := part_at (k := 1) cellsInts (hg 1 _ rfl) rfl
      have g2 : DataW.trod enc Try.prog W 0 (fun _ => true) true n 3 [c2] = some y2 := part_at (k := 2) cellsInt (hg 2 _ rfl) rfl
      obtain ⟨A, n1, k1, l1, e1, r1⟩ := part_ints g0
      obtain ⟨B, n2, k2, l2, e2, r2⟩ := part_ints g1
      obtain ⟨a2, e0, _, _⟩ := DataW.trod_int Try.underlying3 g2
      injection e0 with e0 _
      exact ⟨⟨l1, l2, a2⟩, A, n1, k1, B, n2, k2, by rw [e0, e1, e2], r1, r2⟩
end
end Go.Proofs.Ytdildmfjekdlgaa
/-
  PROVED: for every input the law CapacityRaw returns true and leaves its arguments as they were. Conditions: none but the row's own.
-/
namespace Go.Proofs.Ytdildmfjekdlgaa.capacityRaw
open Go.ChangeShapes Go.WideShapes Go.ChangeAt Go.RowKit
theorem own : ownKnob Try.prog.godebug = none := by kernel_rfl
theorem laidOut : laidOutB Try.prog = true := by kernel_rfl
theorem cellsI : Try.prog.cellsOf 3 = 1 := by kernel_rfl
set_option maxRecDepth 100000 in
theorem lifted (os : Os) (started : os.Started) (H : Type) (enc : TypeId × Value → H) :
    ReturnsInHanded {} Try.checked os 3 .any (Rows.capacityRawSpec.pre6 enc Try.prog Try.f3 Rows.capacityRawRow.domain false) (Rows.capacityRawSpec.post enc Try.prog Try.f3 false true false false) := by
  refine returnsInHanded_of_change (C := Try.checked) own started (by kernel_rfl) Try.func3
    (ChangeSpec.witness6 (enc := enc) (C := Try.checked) false ⟨#[], #[.slice none 0 0, .agg #[.slice none 0 0, .slice none 0 0, .int .i64 0], .slice none 0 0], []⟩ 8 (by kernel_rfl) (by kernel_rfl) (by kernel_rfl) (by kernel_rfl)) ?_
  intro W base args ds gs before hval hW _ _
  have hW' := hW
  obtain ⟨p, q, hA, hV, rfl, _, _⟩ := hW
  rw [Try.params3] at hA hval
  obtain ⟨v0, v1, v2, d0, d1, d2, p0, p1, p2, rfl, rfl, rfl, h0, h1, h2⟩ := trodAll_three hA
  obtain ⟨rfl, rfl⟩ := trodVars_none hV
  obtain ⟨A0, n0, c0, l0, rfl, hr0, _⟩ := open_i64s Try.underlying22 Try.underlying3 cellsI (hval 0 22 v0 rfl rfl) h0
  obtain ⟨q, hq⟩ := open_policy (hval 1 24 v1 rfl rfl) h1
  obtain ⟨A2, n2, c2, l2, rfl, hr2, _⟩ := open_i64s Try.underlying22 Try.underlying3 cellsI (hval 2 22 v2 rfl rfl) h2
  refine (craw_any capC A0 n0 c0 l0 q _ A2 n2 c2 l2 W hr0 hq hr2).mono fun e W' ⟨he, hb⟩ => ?_
  subst he
  exact law_post laidOut (by kernel_rfl) Try.underlying4 (by kernel_rfl) rfl hW' rfl hb
theorem over : Rows.CapacityRawSaid :=
  OpenClaim.holds_of_wide 3 Try.f3 rfl rfl rfl rfl rfl rfl rfl ⟨rfl, rfl, rfl, rfl, rfl⟩ rfl rfl rfl rfl rfl (by kernel_rfl) Try.func3 (by kernel_rfl)
    (of_decide_eq_true (by kernel_rfl)) (by unfold Func.isWrapper; first | (rw [if_pos (by decide +kernel)]; kernel_rfl) | (rw [if_neg (by decide +kernel)]; exact ⟨rfl, rfl⟩))
    (fun os started H enc _ => lifted os started H enc)
end Go.Proofs.Ytdildmfjekdlgaa.capacityRaw
/-
  PROVED: for every input the law CapacityMore returns true and leaves its argument as it was. Conditions: none but the row's own.
-/
namespace Go.Proofs.Ytdildmfjekdlgaa.capacityMore
open Go.ChangeShapes Go.WideShapes Go.ChangeAt Go.RowKit
theorem own : ownKnob Try.prog.godebug = none := by kernel_rfl
theorem laidOut : laidOutB Try.prog = true := by kernel_rfl
theorem cellsI : Try.prog.cellsOf 3 = 1 := by kernel_rfl
set_option maxRecDepth 100000 in
theorem lifted (os : Os) (started : os.Started) (H : Type) (enc : TypeId × Value → H) :
    ReturnsInHanded {} Try.checked os 5 .any (Rows.capacityMoreSpec.pre6 enc Try.prog Try.f5 Rows.capacityMoreRow.domain false) (Rows.capacityMoreSpec.post enc Try.prog Try.f5 false true false false) := by
  refine returnsInHanded_of_change (C := Try.checked) own started (by kernel_rfl) Try.func5
    (ChangeSpec.witness6 (enc := enc) (C := Try.checked) false ⟨#[], #[.slice none 0 0], []⟩ 8 (by kernel_rfl) (by kernel_rfl) (by kernel_rfl) (by kernel_rfl)) ?_
  intro W base args ds gs before hval hW _ _
  have hW' := hW
  obtain ⟨p, q, hA, hV, rfl, _, _⟩ := hW
  rw [Try.params5] at hA hval
  obtain ⟨v0, d0, rfl, rfl, h0⟩ := trodAll_one hA
  obtain ⟨rfl, rfl⟩ := trodVars_none hV
  obtain ⟨A0, n0, c0, l0, rfl, hr0, _, _⟩ := open_i64s Try.underlying22 Try.underlying3 cellsI (hval 0 22 v0 rfl rfl) h0
  refine (cmore_any capC A0 n0 c0 l0 W hr0).mono fun e W' ⟨he, hb⟩ => ?_
  subst he
  exact law_post laidOut (by kernel_rfl) Try.underlying4 (by kernel_rfl) rfl hW' rfl hb
theorem over : Rows.CapacityMoreSaid :=
  OpenClaim.holds_of_wide 5 Try.f5 rfl rfl rfl rfl rfl rfl rfl ⟨rfl, rfl, rfl, rfl, rfl⟩ rfl rfl rfl rfl rfl (by kernel_rfl) Try.func5 (by kernel_rfl)
    (of_decide_eq_true (by kernel_rfl)) (by unfold Func.isWrapper; first | (rw [if_pos (by decide +kernel)]; kernel_rfl) | (rw [if_neg (by decide +kernel)]; exact ⟨rfl, rfl⟩))
    (fun os started H enc _ => lifted os started H enc)
end Go.Proofs.Ytdildmfjekdlgaa.capacityMore
/- Plain facts for the law CapacityBounds. -/
namespace Go.Proofs.Ytdildmfjekdlgaa
open Go.RowKit
/-- The same graph but for edges among some keys. -/
def MB (G : Gr) (S : List Int) (K : Gr) : Prop := Good11 K ∧ K.sz = G.sz ∧ ∀ e : Edg, hasI S e.fr = false → (e ∈ G.es ↔ e ∈ K.es)
theorem MB.refl {G : Gr} {S : List Int} (h : Good11 G) : MB G S G := ⟨h, rfl, fun _ _ => Iff.rfl⟩
theorem MB.edge {G : Gr} {S : List Int} {K : Gr} {e : Edg} (h : MB G S K) (he : hasI S e.fr = true) (h0 : (withG K e).2 = 0) : MB G S (withG K e).1 := by
  obtain ⟨-, g2, g3, -⟩ := with_good h0
  refine ⟨g2, by rw [g3]; exact h.2.1, fun x hx => (h.2.2 x hx).trans ?_⟩
  rw [g3]
  show x ∈ K.es ↔ x ∈ K.es.take (idxE e K.es) ++ e :: K.es.drop (idxE e K.es)
  have hne : x ≠ e := fun q => by rw [q, he] at hx; exact absurd hx (by decide)
  rw [List.mem_append, List.mem_cons]
  constructor
  · intro h1
    rw [← List.take_append_drop (idxE e K.es) K.es, List.mem_append] at h1
    exact h1.elim .inl fun q => .inr (.inr q)
  · rintro (h1 | h1 | h1)
    · exact List.mem_of_mem_take h1
    · exact absurd h1 hne
    · exact List.mem_of_mem_drop h1
/-- The keys turned round, each one twice: what is there when q are left. -/
def turnL (S : List Int) (q : Nat) : List Int := (S.drop q).reverse.flatMap fun x => [x, x]
theorem turnL_full (S : List Int) : turnL S S.length = [] := by unfold turnL; rw [List.drop_length]; rfl
theorem turnL_snoc {S : List Int} {q : Nat} (h : q < S.length) : turnL S q = turnL S (q + 1) ++ [S.getD q 0, S.getD q 0] := by
  unfold turnL
  rw [List.drop_eq_getElem_cons h, List.reverse_cons, List.flatMap_append, List.getD_eq_getElem?_getD, List.getElem?_eq_getElem h]
  rfl
theorem turnL_len (S : List Int) : ∀ k q, S.length = q + k → (turnL S q).length = 2 * k
  | 0, q, h => by rw [show q = S.length by omega, turnL_full]; rfl
  | k + 1, q, h => by rw [turnL_snoc (by omega), List.length_append, turnL_len S k (q + 1) (by omega)]; simp; omega
theorem turnL_mem {S : List Int} {x : Int} : x ∈ turnL S 0 ↔ x ∈ S := by
  unfold turnL
  rw [List.drop_zero, List.mem_flatMap]
  constructor
  · rintro ⟨a, ha, h⟩
    have : x = a := by simpa using h
    rw [this]
    exact List.mem_reverse.1 ha
  · intro h
    exact ⟨x, List.mem_reverse.2 h, List.mem_cons_self⟩
/-- What the seeds among some keys have, counted along the seeds. -/
def seedW (S : List Int) (c : Int) : List Int → Int
  | [] => 0
  | x :: l => (if hasI S x then c else 0) + seedW S c l
theorem seedW_app (S : List Int) (c : Int) (x : Int) : ∀ l : List Int, seedW S c (l ++ [x]) = seedW S c l + (if hasI S x then c else 0)
  | [] => by
    show (if hasI S x then c else 0) + 0 = 0 + (if hasI S x then c else 0)
    rw [Int.add_zero, Int.zero_add]
  | a :: l => by
    show (if hasI S a then c else 0) + seedW S c (l ++ [x]) = (if hasI S a then c else 0) + seedW S c l + (if hasI S x then c else 0)
    rw [seedW_app S c x l, Int.add_assoc]
theorem seedW_snoc (S : List Int) (c : Int) (l : List Int) (j : Nat) (h : j < l.length) : seedW S c (l.take (j + 1)) = seedW S c (l.take j) + (if hasI S (l.getD j 0) then c else 0) := by
  rw [List.take_add_one, List.getElem?_eq_getElem h, List.getD_eq_getElem?_getD, List.getElem?_eq_getElem h]
  exact seedW_app S c _ _
theorem seedW_bd {S : List Int} {c : Int} (h0 : 0 ≤ c) (h1 : c ≤ 1000) : ∀ l : List Int, 0 ≤ seedW S c l ∧ seedW S c l ≤ 1000 * (l.length : Int)
  | [] => by unfold seedW; simp
  | x :: l => by
    have h := seedW_bd (S := S) h0 h1 l
    unfold seedW
    rw [List.length_cons]
    split <;> omega
theorem seedSum_has (keys : List Int) (c : Int) {a b : List Int} : ∀ z : Nat, (∀ k : Nat, k < z → hasI a (k : Int) = hasI b (k : Int)) → seedSum a keys c z = seedSum b keys c z
  | 0, _ => rfl
  | z + 1, h => by unfold seedSum; rw [seedSum_has keys c z (fun k hk => h k (by omega)), h z (by omega)]
theorem seedSum_asc (keys : List Int) (c : Int) : ∀ (z : Nat) (l : List Int), l.Pairwise (· < ·) → (∀ x ∈ l, 0 ≤ x ∧ x < (z : Int)) → seedW keys c l = seedSum l keys c z
  | 0, l, _, h => by
    cases l with
    | nil => rfl
    | cons a l => have := h a List.mem_cons_self; omega
  | z + 1, l, hp, h => by
    by_cases hz : (z : Int) ∈ l
    · rcases List.eq_nil_or_concat l with e | ⟨l', a, e⟩
      · rw [e] at hz; exact nomatch hz
      · rw [List.concat_eq_append] at e
        subst e
        have hp' := List.pairwise_append.1 hp
        have ha : a = (z : Int) := by
          rcases List.mem_append.1 hz with q | q
          · have h1 := hp'.2.2 _ q a (List.mem_singleton_self a)
            have h2 := (h a (List.mem_append_right _ (List.mem_singleton_self a))).2
            omega
          · exact (List.mem_singleton.1 q).symm
        subst ha
        have hl : ∀ x ∈ l', 0 ≤ x ∧ x < (z : Int) := fun x hx => ⟨(h x (List.mem_append_left _ hx)).1, hp'.2.2 x hx _ (List.mem_singleton_self _)⟩
        rw [seedW_app, seedSum_asc keys c z l' hp'.1 hl]
        show seedSum l' keys c z + (if hasI keys (z : Int) then c else 0) = seedSum (l' ++ [(z : Int)]) keys c z + (if hasI keys (z : Int) then (if hasI (l' ++ [(z : Int)]) (z : Int) then c else 0) else 0)
        have e1 : hasI (l' ++ [(z : Int)]) (z : Int) = true := (hasI_iff _ _).2 (List.mem_append_right _ (List.mem_singleton_self _))
        rw [e1, if_pos rfl]
        congr 1
        refine seedSum_has keys c z fun k hk => ?_
        rw [Bool.eq_iff_iff, hasI_iff, hasI_iff, List.mem_append, List.mem_singleton]
        constructor
        · exact .inl
        · rintro (q | q)
          · exact q
          · omega
    · have hl : ∀ x ∈ l, 0 ≤ x ∧ x < (z : Int) := fun x hx => ⟨(h x hx).1, by
        have h1 := (h x hx).2
        have h2 : x ≠ (z : Int) := fun q => hz (q ▸ hx)
        omega⟩
      rw [seedSum_asc keys c z l hp hl]
      have e1 : hasI l (z : Int) = false := by
        cases hq : hasI l (z : Int)
        · rfl
        · exact absurd ((hasI_iff _ _).1 hq) hz
      show seedSum l keys c z = seedSum l keys c z + (if hasI keys (z : Int) then (if hasI l (z : Int) then c else 0) else 0)
      rw [e1]
      split <;> simp
theorem set_pairs {l : List Int} {z : Int} (h : setB l z = true) : l.Pairwise (· < ·) := by
  rw [List.pairwise_iff_getElem]
  intro i j hi hj hij
  have key : ∀ d a (ha : a + d + 1 < l.length), l.getD a 0 < l.getD (a + d + 1) 0 := by
    intro d
    induction d with
    | zero => intro a ha; have := (set_at h (i := a + 0 + 1) ha).2.2 (by omega); simpa using this
    | succ d ih =>
      intro a ha
      have h1 := ih a (by omega)
      have h2 := (set_at h (i := a + (d + 1) + 1) ha).2.2 (by omega)
      rw [show a + (d + 1) + 1 - 1 = a + d + 1 by omega] at h2
      omega
  have h1 := key (j - i - 1) i (by omega)
  rw [show i + (j - i - 1) + 1 = j by omega] at h1
  rw [List.getD_eq_getElem?_getD, List.getElem?_eq_getElem hi, List.getD_eq_getElem?_getD, List.getElem?_eq_getElem hj] at h1
  exact h1
theorem seedW_all {l : List Int} {z : Int} (h0 : 0 ≤ z) (h : setB l z = true) (keys : List Int) (c : Int) : seedW keys c l = seedSum l keys c z.toNat := by
  refine seedSum_asc keys c z.toNat l (set_pairs h) fun x hx => ?_
  obtain ⟨i, hi, rfl⟩ := List.mem_iff_getElem.1 hx
  have h1 := set_at h hi
  rw [List.getD_eq_getElem?_getD, List.getElem?_eq_getElem hi] at h1
  have h2 : (0 : Int) ≤ l[i] ∧ l[i] < z := ⟨h1.1, h1.2.1⟩
  omega
/-- The bound over keys and no edges. -/
theorem bound_bare13 {z : Int} {p : Pol} {S : List Int} (h0 : 0 ≤ z) (h1 : z ≤ 64) (hp : GoodP z p) : boundG ⟨z, [], []⟩ p S = seedW S (p.tb.getD 0 0) p.sd := by
  rw [bound_bare h0 h1 hp.tab, seedW_all h0 hp.set]
theorem good_bare13 {z : Int} (h0 : 0 ≤ z) (h1 : z ≤ 64) : Good11 ⟨z, [], []⟩ := ⟨h0, h1, Nat.zero_le _, rfl, fun _ h => (nomatch h), fun _ h => (nomatch h), List.Pairwise.nil, fun _ h => (nomatch h)⟩
theorem bound_nonneg {G : Gr} {p : Pol} (ht : GoodT p.tb) (S : List Int) : 0 ≤ boundG G p S := (sumB_bd ht S _).1
end Go.Proofs.Ytdildmfjekdlgaa
