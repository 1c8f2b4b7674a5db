/- The walk of the reader's pins. -/
import Derived.Test.YtnokhjpileamaaaDoorReader
namespace Go.Proofs.YtnokhjpileamaaaDoor
open Go.RowKit
/-- A pin that is taken from bytes; the bytes behind it; whether there is one. -/
noncomputable def pinAt (us : List UInt8) : PinD := ⟨(takeI us).1, (takeI (takeI us).2.1).1, (takeS (takeI (takeI us).2.1).2.1 32).1⟩
noncomputable def pinRest (us : List UInt8) : List UInt8 := (takeS (takeI (takeI us).2.1).2.1 32).2.1
noncomputable def pinOk (us : List UInt8) : Bool := (takeI us).2.2 && (takeI (takeI us).2.1).2.2 && (takeS (takeI (takeI us).2.1).2.1 32).2.2
/-- So many pins. -/
noncomputable def pinsL : Nat → List UInt8 → List PinD × List UInt8 × Bool
  | 0, us => ([], us, true)
  | j + 1, us => ((pinsL j us).1 ++ [pinAt (pinsL j us).2.1], pinRest (pinsL j us).2.1, (pinsL j us).2.2 && pinOk (pinsL j us).2.1)
theorem pinRest_le (us : List UInt8) : (pinRest us).length ≤ us.length :=
  Nat.le_trans (takeS_le _ _) (Nat.le_trans (takeI_le _) (takeI_le _))
theorem pinsL_le (us : List UInt8) : ∀ j, (pinsL j us).2.1.length ≤ us.length
  | 0 => Nat.le_refl _
  | j + 1 => Nat.le_trans (pinRest_le _) (pinsL_le us j)
theorem pinsL_len (us : List UInt8) : ∀ j, (pinsL j us).1.length = j
  | 0 => rfl
  | j + 1 => by show ((pinsL j us).1 ++ [_]).length = _; rw [List.length_append, pinsL_len us j]; rfl
theorem pinsL_no (us : List UInt8) {j : Nat} (h : (pinsL j us).2.2 = false) : ∀ n, j ≤ n → (pinsL n us).2.2 = false := by
  intro n hn
  obtain ⟨d, rfl⟩ : ∃ d, n = j + d := ⟨n - j, by omega⟩
  clear hn
  induction d with
  | zero => exact h
  | succ d ih => show ((pinsL (j + d) us).2.2 && _) = false; rw [ih]; rfl
/-- The pins of a statement, behind their number. -/
noncomputable def takeP (us : List UInt8) : List PinD × List UInt8 × Bool :=
  ((pinsL (takeI us).1.toNat (takeI us).2.1).1, (pinsL (takeI us).1.toNat (takeI us).2.1).2.1, (takeI us).2.2 && btw (takeI us).1 0 64 && (pinsL (takeI us).1.toNat (takeI us).2.1).2.2)
theorem takeP_le (us : List UInt8) : (takeP us).2.1.length ≤ us.length := Nat.le_trans (pinsL_le _ _) (takeI_le _)
def ReadsP (L R : Nat) (w : World) (l : List PinD) (rest : List UInt8) (ok : Bool) (e : Ending) (w' : World) : Prop :=
  But R w w' ∧ ((ok = true ∧ (∃ B m k, e = .returned (.slice B m k) ∧ PRow w' B m k l ∧ New w w' B) ∧ RdAt w' L R rest) ∨ (ok = false ∧ e = .panicked [noStm]))
/-- Pins in a slice of the call's own. -/
def POwn (w : World) (B : Nat) (v : Value) (l : List PinD) : Prop := w.ownsRow B 44 3 v l.length (pinsC l)
theorem pin_inf : (Tryd.prog.info? 44).map (fun i => (i.zero, i.size, i.bytes)) = some (some (.agg #[.int .i64 0, .int .i64 0, .string ⟨#[]⟩]), 3, 32) := by kernel_rfl
/-- What turns in a block of the call's own is nothing to those that were there. -/
theorem but_new {p : Nat} {a w w' : World} (hp : a.heap.size ≤ p) (h : But p w w') (hs : a.heap.size ≤ w.heap.size) : Below a.heap.size w w' := ⟨h.os, h.tape, h.output, h.size, fun k hk => h.block k (by omega) (by omega)⟩
theorem own_set {w : World} {B p : Nat} {e : TypeId} {sz : Nat} {v : Value} {n : Nat} {xs : List Value} (h : w.ownsRow B e sz v n xs) (hne : v.ownBlock ≠ some p) (o : Nat) (u : Value) : (w.setCell ⟨p, o, none⟩ u).ownsRow B e sz v n xs := by
  refine ⟨h.1, ?_⟩
  rcases h.2 with hn | ⟨g, cap, cur, rfl, hg, hgg, rest⟩
  · exact .inl hn
  · exact .inr ⟨g, cap, cur, rfl, hg, (Below.heap_setCell _ _ _ _ (fun e => hne (by rw [e]; rfl))).trans hgg, rest⟩
theorem pinsC_single (p : PinD) : pinsC [p] = pinC p := by simp [pinsC]
theorem pinsC_one' (p : PinD) : ∀ u ∈ pinC p, u.oneCell' = true := by
  rw [← pinsC_single]; exact pinsC_one _
theorem RdAt.set {w : World} {L R p : Nat} {us : List UInt8} (h : RdAt w L R us) (hL : L ≤ p) (hne : p ≠ R) (o : Nat) (v : Value) : RdAt (w.setCell ⟨p, o, none⟩ v) L R us :=
  h.keep (Below.heap_setCell _ _ _ _ (Ne.symm hne)) fun k hk => Below.heap_setCell _ _ _ _ (by show k ≠ p; omega)
/-- It stays where an append writes to a slice of the call's own. -/
theorem rd_grow {w w' : World} {L R B : Nat} {us : List UInt8} {v : Value} (h : RdAt w L R us) (hR : R < B) (hv : ∀ k, v.ownBlock = some k → B ≤ k) (hk : ∀ k, k < w.heap.size → v.ownBlock ≠ some k → w'.heap[k]? = w.heap[k]?) : RdAt w' L R us :=
  h.keep (hk R h.lt fun e => by have := hv R e; omega) fun k hL => hk k (by have := h.low; have := h.lt; omega) fun e => by have := hv k e; have := h.low; omega
set_option maxHeartbeats 1000000 in
theorem rdPins (L R : Nat) (us : List UInt8) (w : World) (h : RdAt w L R us) (hn : us.length ≤ 900000) :
    Calls Tryd.prog 84 #[.pointer (some ⟨R, 0, none⟩), .int .i64 64] w (ReadsP L R w (takeP us).1 (takeP us).2.1 (takeP us).2.2) := by
  have hlt := h.lt
  have HT : Hid (takeP us = ((pinsL (takeI us).1.toNat (takeI us).2.1).1, (pinsL (takeI us).1.toNat (takeI us).2.1).2.1, (takeI us).2.2 && btw (takeI us).1 0 64 && (pinsL (takeI us).1.toNat (takeI us).2.1).2.2)) := Lib.hid rfl
  have HN := Lib.hid (rdNumber L R us w h hn)
  have hle := takeI_le us
  have HLT := Lib.hid hlt; clear h hlt
  generalize takeP us = T at HT ⊢
  generalize takeI us = X at HT HN hle
  obtain ⟨v, u1, ok⟩ := X
  simp only at hle HT HN
  go_enter Tryd.func84, Tryd.ntmps84
  go_wp2_with fail
  refine HN.out.mono ?_
  rintro e w1 ⟨hb, ⟨rfl, rfl, hr⟩ | ⟨rfl, rfl⟩⟩
  · have HB1 := Lib.hid hb; have HR1 := Lib.hid hr; clear hb hr HN
    go_wp2_with fail
    refine (between_any _ _ _ _).mono ?_
    rintro e w2 ⟨rfl, rfl⟩
    cases g : btw v 0 64
    · go_wp2_with fail
      refine (require_no _ _).mono ?_
      rintro e w2 ⟨rfl, rfl⟩
      have HF : Hid (T.2.2 = false) := by unfold Hid; rw [HT.out, g]; rfl
      go_wp2
      exact ⟨rfl, HB1.out, .inr ⟨HF.out, rfl⟩⟩
    · go_wp2_with fail
      refine (require_yes _ _).mono ?_
      rintro e w2 ⟨rfl, rfl⟩
      have hv : 0 ≤ v ∧ v ≤ 64 := by simpa [btw] using g
      obtain ⟨n, rfl⟩ : ∃ n : Nat, v = n := ⟨v.toNat, by omega⟩
      have HT2 : Hid (T = ((pinsL n u1).1, (pinsL n u1).2.1, (pinsL n u1).2.2)) := by unfold Hid; rw [HT.out, g]; simp
      have hn64 : n ≤ 64 := by omega
      clear HT hv g
      go_wp2
      go_loopw [6, 16] (fun x i wr => ∃ j : Nat, j ≤ n ∧ i = .int .i64 j ∧ Hid (POwn wr w.heap.size x (pinsL j u1).1 ∧ RdAt wr L R (pinsL j u1).2.1 ∧ But R w wr ∧ (pinsL j u1).2.2 = true)) (fun _ i _ => n - (intOf i).toNat)
      case atStart => exact ⟨0, Nat.zero_le _, rfl, Lib.hid ⟨World.ownsRow_nil _ _ _ _, HR1.out, HB1.out, rfl⟩⟩
      case round =>
        obtain ⟨j, hj, rfl, HQ⟩ := hrel
        by_cases hlt : j < n
        · have hlj : (pinsL j u1).2.1.length ≤ us.length := Nat.le_trans (pinsL_le u1 j) hle
          have HS : Hid (pinsL (j + 1) u1 = ((pinsL j u1).1 ++ [pinAt (pinsL j u1).2.1], pinRest (pinsL j u1).2.1, (pinsL j u1).2.2 && pinOk (pinsL j u1).2.1)) := Lib.hid rfl
          have HLN := Lib.hid (pinsL_len u1 j)
          have NO : Hid (pinOk (pinsL j u1).2.1 = false → T.2.2 = false) := Lib.hid fun h => by
            rw [HT2.out]
            exact pinsL_no u1 (j := j + 1) (by rw [HS.out, h]; simp) n hlt
          have HPO : Hid (pinOk (pinsL j u1).2.1 = ((takeI (pinsL j u1).2.1).2.2 && (takeI (takeI (pinsL j u1).2.1).2.1).2.2 && (takeS (takeI (takeI (pinsL j u1).2.1).2.1).2.1 32).2.2)) := Lib.hid rfl
          have HPA : Hid (pinAt (pinsL j u1).2.1 = ⟨(takeI (pinsL j u1).2.1).1, (takeI (takeI (pinsL j u1).2.1).2.1).1, (takeS (takeI (takeI (pinsL j u1).2.1).2.1).2.1 32).1⟩) := Lib.hid rfl
          have HPR : Hid (pinRest (pinsL j u1).2.1 = (takeS (takeI (takeI (pinsL j u1).2.1).2.1).2.1 32).2.1) := Lib.hid rfl
          have HO := Lib.hid HQ.out.1; have HR := Lib.hid HQ.out.2.1; have HB := Lib.hid HQ.out.2.2.1; have HK := Lib.hid HQ.out.2.2.2
          clear HQ
          generalize (pinsL j u1).2.1 = x0 at hlj HS NO HPO HPA HPR HR
          generalize (pinsL j u1).1 = l0 at HO HS HLN
          have hx1 := takeI_le x0
          have N0 := Lib.hid (fun w h => rdNumber L R x0 w h (by omega))
          generalize takeI x0 = X0 at hx1 HPO HPA HPR N0
          obtain ⟨a0, x1, k0⟩ := X0
          simp only at hx1 HPO HPA HPR N0
          have hx2 := takeI_le x1
          have N1 := Lib.hid (fun w h => rdNumber L R x1 w h (by omega))
          generalize takeI x1 = X1 at hx2 HPO HPA HPR N1
          obtain ⟨a1, x2, k1⟩ := X1
          simp only at hx2 HPO HPA HPR N1
          have N2 := Lib.hid (fun w h => rdText L R x2 32 w h (by omega))
          generalize takeS x2 32 = X2 at HPO HPA HPR N2
          obtain ⟨a2, x3, k2⟩ := X2
          simp only at HPO HPA HPR N2
          go_wp2_with fail
          obtain ⟨p, hp⟩ : ∃ p, p = wr.heap.size := ⟨_, rfl⟩
          have HX0 : Hid ((wr.alloc (.cells #[.int .i64 0, .int .i64 0, .string ⟨#[]⟩] 44)).heap[wr.heap.size]? = _) := Lib.hid (heap_alloc_new wr (.cells #[.int .i64 0, .int .i64 0, .string ⟨#[]⟩] 44))
          have HB0 := Lib.hid (HB.out.trans (But.of (one_new wr (.cells #[.int .i64 0, .int .i64 0, .string ⟨#[]⟩] 44)))); have HO0 : Hid (POwn (wr.alloc (.cells #[.int .i64 0, .int .i64 0, .string ⟨#[]⟩] 44)) w.heap.size u6 l0) := Lib.hid (World.ownsRow.alloc HO.out _); have HR0 := Lib.hid (HR.out.later (one_new wr (.cells #[.int .i64 0, .int .i64 0, .string ⟨#[]⟩] 44))); have HL0 : Hid (wr.heap.size < (wr.alloc (.cells #[.int .i64 0, .int .i64 0, .string ⟨#[]⟩] 44)).heap.size) := Lib.hid (by simp)
          have HNE : Hid (p ≠ R) := Lib.hid (by rw [hp]; exact Nat.ne_of_gt HR.out.lt)
          have HLP : Hid (L ≤ p) := Lib.hid (by rw [hp]; exact Nat.le_trans HR.out.low (Nat.le_of_lt HR.out.lt))
          have HPW : Hid (w.heap.size ≤ p) := Lib.hid (by rw [hp]; exact HB.out.size)
          have HOL : Hid (∀ k, Value.ownBlock u6 = some k → k < p) := Lib.hid fun k hk => by rw [hp]; exact (World.ownsRow.lt HO.out k hk).2
          rw [← hp] at HX0 HL0 ⊢
          clear hp HB HO HR
          generalize wr.alloc (.cells #[.int .i64 0, .int .i64 0, .string ⟨#[]⟩] 44) = w0 at HX0 HB0 HO0 HR0 HL0 ⊢
          refine (N0.out _ HR0.out).mono ?_
          rintro e w1 ⟨hb, ⟨hk0, rfl, hr⟩ | ⟨hk0, rfl⟩⟩
          rotate_left
          · have HF := Lib.hid (NO.out (by rw [HPO.out, hk0]; rfl))
            have HB' := Lib.hid (HB0.out.trans hb)
            go_wp2
            exact ⟨rfl, HB'.out, .inr ⟨HF.out, rfl⟩⟩
          have HX1a := Lib.hid ((hb.block p HL0.out HNE.out).trans HX0.out); have HB1a := Lib.hid (HB0.out.trans hb); have HO1a : Hid (POwn w1 w.heap.size u6 l0) := Lib.hid (own_but HO0.out hb HLT.out); have HR1a := Lib.hid hr; have HL1 : Hid (p < w1.heap.size) := Lib.hid (Nat.lt_of_lt_of_le HL0.out hb.size)
          clear hb hr HX0 HB0 HO0 HR0
          have hz : w1.frozen? ⟨p, 0, none⟩ = false := frozen_of_row _ _ _ _ _ HX1a.out
          have hc : w1.cell? ⟨p, 0, none⟩ = some (.int .i64 0) := by rw [cell_of_row _ _ _ _ _ _ HX1a.out]; rfl
          go_wp2_with fail
          have HX1 : Hid ((w1.setCell ⟨p, 0, none⟩ (.int .i64 a0)).heap[p]? = some (.cells #[.int .i64 a0, .int .i64 0, .string ⟨#[]⟩] 44 (0, 0))) := Lib.hid (heap_setCell_same _ _ _ _ _ _ HX1a.out)
          have HB1 := Lib.hid (HB1a.out.grow (but_new HPW.out (But.set w1 0 (.int .i64 a0)) HB1a.out.size)); have HO1 : Hid (POwn (w1.setCell ⟨p, 0, none⟩ (.int .i64 a0)) w.heap.size u6 l0) := Lib.hid (own_set HO1a.out (fun hh => Nat.lt_irrefl _ (HOL.out p hh)) 0 _); have HR1 := Lib.hid (HR1a.out.set HLP.out HNE.out 0 (.int .i64 a0))
          have HL1' : Hid (p < (w1.setCell ⟨p, 0, none⟩ (.int .i64 a0)).heap.size) := Lib.hid (by rw [World.size_setCell]; exact HL1.out)
          clear hz hc HX1a HB1a HO1a HR1a HL1
          generalize w1.setCell ⟨p, 0, none⟩ (.int .i64 a0) = y1 at HX1 HB1 HO1 HR1 HL1' ⊢
          have HL1 := HL1'; clear HL1'
          refine (N1.out _ HR1.out).mono ?_
          rintro e w2 ⟨hb, ⟨hk1, rfl, hr⟩ | ⟨hk1, rfl⟩⟩
          rotate_left
          · have HF := Lib.hid (NO.out (by rw [HPO.out, hk0, hk1]; simp))
            have HB' := Lib.hid (HB1.out.trans hb)
            go_wp2
            exact ⟨rfl, HB'.out, .inr ⟨HF.out, rfl⟩⟩
          have HX2a := Lib.hid ((hb.block p HL1.out HNE.out).trans HX1.out); have HB2a := Lib.hid (HB1.out.trans hb); have HO2a : Hid (POwn w2 w.heap.size u6 l0) := Lib.hid (own_but HO1.out hb HLT.out); have HR2a := Lib.hid hr; have HL2 : Hid (p < w2.heap.size) := Lib.hid (Nat.lt_of_lt_of_le HL1.out hb.size)
          clear hb hr HX1 HB1 HO1 HR1
          have hz : w2.frozen? ⟨p, 1, none⟩ = false := frozen_of_row _ _ _ _ _ HX2a.out
          have hc : w2.cell? ⟨p, 1, none⟩ = some (.int .i64 0) := by rw [cell_of_row _ _ _ _ _ _ HX2a.out]; rfl
          go_wp2_with fail
          have HX2 : Hid ((w2.setCell ⟨p, 1, none⟩ (.int .i64 a1)).heap[p]? = some (.cells #[.int .i64 a0, .int .i64 a1, .string ⟨#[]⟩] 44 (0, 0))) := Lib.hid (heap_setCell_same _ _ _ _ _ _ HX2a.out)
          have HB2 := Lib.hid (HB2a.out.grow (but_new HPW.out (But.set w2 1 (.int .i64 a1)) HB2a.out.size)); have HO2 : Hid (POwn (w2.setCell ⟨p, 1, none⟩ (.int .i64 a1)) w.heap.size u6 l0) := Lib.hid (own_set HO2a.out (fun hh => Nat.lt_irrefl _ (HOL.out p hh)) 1 _); have HR2 := Lib.hid (HR2a.out.set HLP.out HNE.out 1 (.int .i64 a1))
          have HL2' : Hid (p < (w2.setCell ⟨p, 1, none⟩ (.int .i64 a1)).heap.size) := Lib.hid (by rw [World.size_setCell]; exact HL2.out)
          clear hz hc HX2a HB2a HO2a HR2a HL2
          generalize w2.setCell ⟨p, 1, none⟩ (.int .i64 a1) = y2 at HX2 HB2 HO2 HR2 HL2' ⊢
          have HL2 := HL2'; clear HL2'
          refine (N2.out _ HR2.out).mono ?_
          rintro e w3 ⟨hb, ⟨hk2, rfl, hr⟩ | ⟨hk2, rfl⟩⟩
          rotate_left
          · have HF := Lib.hid (NO.out (by rw [HPO.out, hk0, hk1, hk2]; simp))
            have HB' := Lib.hid (HB2.out.trans hb)
            go_wp2
            exact ⟨rfl, HB'.out, .inr ⟨HF.out, rfl⟩⟩
          have HX3a := Lib.hid ((hb.block p HL2.out HNE.out).trans HX2.out); have HB3a := Lib.hid (HB2.out.trans hb); have HO3a : Hid (POwn w3 w.heap.size u6 l0) := Lib.hid (own_but HO2.out hb HLT.out); have HR3a := Lib.hid hr; have HL3 : Hid (p < w3.heap.size) := Lib.hid (Nat.lt_of_lt_of_le HL2.out hb.size)
          clear hb hr HX2 HB2 HO2 HR2
          have hz : w3.frozen? ⟨p, 2, none⟩ = false := frozen_of_row _ _ _ _ _ HX3a.out
          have hc : w3.cell? ⟨p, 2, none⟩ = some (.string ⟨#[]⟩) := by rw [cell_of_row _ _ _ _ _ _ HX3a.out]; rfl
          have hc0 : w3.cell? ⟨p, 0, none⟩ = some (.int .i64 a0) := by rw [cell_of_row _ _ _ _ _ _ HX3a.out]; rfl
          have hc1 : w3.cell? ⟨p, 1, none⟩ = some (.int .i64 a1) := by rw [cell_of_row _ _ _ _ _ _ HX3a.out]; rfl
          have hlen : l0.length ≤ 64 := by rw [HLN.out]; omega
          have HO3 : Hid (POwn (w3.setCell ⟨p, 2, none⟩ (.string a2)) w.heap.size u6 l0) := Lib.hid (own_set HO3a.out (fun hh => Nat.lt_irrefl _ (HOL.out p hh)) 2 _); have HB3 := Lib.hid (HB3a.out.grow (but_new HPW.out (But.set w3 2 (.string a2)) HB3a.out.size)); have HR3 := Lib.hid (HR3a.out.set HLP.out HNE.out 2 (.string a2))
          have HV3 : Hid (∀ k, Value.ownBlock u6 = some k → w.heap.size ≤ k) := Lib.hid fun k hk => (World.ownsRow.lt HO3a.out k hk).1
          have hb3 : Below (w3.setCell ⟨p, 2, none⟩ (.string a2)).heap.size (w3.setCell ⟨p, 2, none⟩ (.string a2)) ((w3.setCell ⟨p, 2, none⟩ (.string a2)).alloc (.cells #[.int .i64 a0, .int .i64 a1, .string a2] 44)) := one_new _ _
          have hrx : Row ((w3.setCell ⟨p, 2, none⟩ (.string a2)).alloc (.cells #[.int .i64 a0, .int .i64 a1, .string a2] 44)) (some ⟨(w3.setCell ⟨p, 2, none⟩ (.string a2)).heap.size, 0, none⟩) 1 1 3 (pinC ⟨a0, a1, a2⟩) := Row.of_block (cs := #[.int .i64 a0, .int .i64 a1, .string a2]) (heap_alloc_new _ _) rfl
          rw [World.size_setCell] at hrx
          have HRX := Lib.hid hrx; have HBX := Lib.hid (HB3.out.grow (hb3.mono HB3.out.size)); have HOX : Hid (POwn ((w3.setCell ⟨p, 2, none⟩ (.string a2)).alloc (.cells #[.int .i64 a0, .int .i64 a1, .string a2] 44)) w.heap.size u6 l0) := Lib.hid (World.ownsRow.alloc HO3.out _); have HRR := Lib.hid (HR3.out.later hb3); have HSX : Hid (w.heap.size ≤ ((w3.setCell ⟨p, 2, none⟩ (.string a2)).alloc (.cells #[.int .i64 a0, .int .i64 a1, .string a2] 44)).heap.size) := Lib.hid (Nat.le_trans HB3.out.size hb3.size)
          clear hb3 hrx
          go_wp2_with (at_builtin; go_must (refine wpList_appK _ rfl (.tmp 27) (.tmp 29) 23 23 44 rfl w.heap.size Tryd.underlying23 pin_inf rfl u6 _ _ HOX.out rfl _ 1 (pinC ⟨a0, a1, a2⟩) (Row.src HRX.out Tryd.underlying23 (pinsC_one' _)) rfl (by unfold maxLen; omega) (by omega) HSX.out ?_); intro v4 w4 ho4 hb4 hk4; have HO4 := Lib.hid ho4; have HB4 := Lib.hid (HBX.out.grow hb4); have HR4 := Lib.hid (rd_grow HRR.out HLT.out HV3.out hk4); clear ho4 hb4 hk4)
          have hks : k0 = true ∧ k1 = true ∧ k2 = true := ⟨hk0, hk1, hk2⟩
          refine ⟨⟨j + 1, hlt, by go_num, Lib.hid ⟨?_, ?_, HB4.out, ?_⟩⟩, by simp [intOf]; omega⟩
          · rw [HS.out, HPA.out]
            unfold POwn
            rw [pinsC_app, List.length_append, pinsC_single]
            exact HO4.out
          · rw [HS.out, HPR.out]; exact HR4.out
          · rw [HS.out, HPO.out, HK.out, hk0, hk1, hk2]; rfl
        · have HE : Hid (j = n) := by unfold Hid; omega
          obtain ⟨B1, b1, hv, hrow⟩ := Row.of_own HQ.out.1
          subst hv
          have HRW := Lib.hid hrow; clear hrow
          have HNW : Hid (∀ ad, B1 = some ad → w.heap.size ≤ ad.block ∧ ad.block < wr.heap.size) := Lib.hid fun ad hA => by subst hA; exact World.ownsRow.lt HQ.out.1 _ rfl
          go_wp2
          go_ret
          have hj := HE.out
          subst hj
          exact ⟨HQ.out.2.2.1, .inl ⟨by rw [HT2.out]; exact HQ.out.2.2.2, ⟨B1, _, b1, rfl, by rw [HT2.out]; exact HRW.out, HNW.out⟩, by rw [HT2.out]; exact HQ.out.2.1⟩⟩
  · have HF : Hid (T.2.2 = false) := by unfold Hid; rw [HT.out]; rfl
    go_wp2
    exact ⟨rfl, hb, .inr ⟨HF.out, rfl⟩⟩
end Go.Proofs.YtnokhjpileamaaaDoor
