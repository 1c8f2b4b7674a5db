import Derived.Test.YtkglgboncngpbaaGreatDoorPackAF
import Derived.Test.YtkglgboncngpbaaGreatDoorPackAC
import Derived.Defers
import Derived.Recover
/- The walk of the reader's pins. -/
namespace Go.Proofs.YtkglgboncngpbaaGreatDoor
open Go.RowKit
/-- A pin that is taken from bytes; the bytes behind it; whether there is one. -/
noncomputable def pinAt (us : List UInt8) : PinD := ⟨(takeI us).1, (takeI (takeI us).2.1).1, (takeS (takeI (takeI us).2.1).2.1 32).1⟩
noncomputable def pinRest (us : List UInt8) : List UInt8 := (takeS (takeI (takeI us).2.1).2.1 32).2.1
noncomputable def pinOk (us : List UInt8) : Bool := (takeI us).2.2 && (takeI (takeI us).2.1).2.2 && (takeS (takeI (takeI us).2.1).2.1 32).2.2
/-- So many pins. -/
noncomputable def pinsL : Nat → List UInt8 → List PinD × List UInt8 × Bool
  | 0, us => ([], us, true)
  | j + 1, us => ((pinsL j us).1 ++ [pinAt (pinsL j us).2.1], pinRest (pinsL j us).2.1, (pinsL j us).2.2 && pinOk (pinsL j us).2.1)
theorem pinRest_le (us : List UInt8) : (pinRest us).length ≤ us.length :=
  Nat.le_trans (takeS_le _ _) (Nat.le_trans (takeI_le _) (takeI_le _))
theorem pinsL_le (us : List UInt8) : ∀ j, (pinsL j us).2.1.length ≤ us.length
  | 0 => Nat.le_refl _
  | j + 1 => Nat.le_trans (pinRest_le _) (pinsL_le us j)
theorem pinsL_len (us : List UInt8) : ∀ j, (pinsL j us).1.length = j
  | 0 => rfl
  | j + 1 => by show ((pinsL j us).1 ++ [_]).length = _; rw [List.length_append, pinsL_len us j]; rfl
theorem pinsL_no (us : List UInt8) {j : Nat} (h : (pinsL j us).2.2 = false) : ∀ n, j ≤ n → (pinsL n us).2.2 = false := by
  intro n hn
  obtain ⟨d, rfl⟩ : ∃ d, n = j + d := ⟨n - j, by omega⟩
  clear hn
  induction d with
  | zero => exact h
  | succ d ih => show ((pinsL (j + d) us).2.2 && _) = false; rw [ih]; rfl
/-- The pins of a statement, behind their number. -/
noncomputable def takeP (us : List UInt8) : List PinD × List UInt8 × Bool :=
  ((pinsL (takeI us).1.toNat (takeI us).2.1).1, (pinsL (takeI us).1.toNat (takeI us).2.1).2.1, (takeI us).2.2 && btw (takeI us).1 0 64 && (pinsL (takeI us).1.toNat (takeI us).2.1).2.2)
theorem takeP_le (us : List UInt8) : (takeP us).2.1.length ≤ us.length := Nat.le_trans (pinsL_le _ _) (takeI_le _)
def ReadsP (L R : Nat) (w : World) (l : List PinD) (rest : List UInt8) (ok : Bool) (e : Ending) (w' : World) : Prop :=
  But R w w' ∧ ((ok = true ∧ (∃ B m k, e = .returned (.slice B m k) ∧ PRow w' B m k l ∧ New w w' B) ∧ RdAt w' L R rest) ∨ (ok = false ∧ e = .panicked [noSt]))
/-- Pins in a slice of the call's own. -/
def POwn (w : World) (B : Nat) (v : Value) (l : List PinD) : Prop := w.ownsRow B 74 3 v l.length (pinsC l)
theorem pin_inf : (Tryz.prog.info? 74).map (fun i => (i.zero, i.size, i.bytes)) = some (some (.agg #[.int .i64 0, .int .i64 0, .string ⟨#[]⟩]), 3, 32) := by kernel_rfl
/-- What turns in a block of the call's own is nothing to those that were there. -/
theorem but_new {p : Nat} {a w w' : World} (hp : a.heap.size ≤ p) (h : But p w w') (hs : a.heap.size ≤ w.heap.size) : Below a.heap.size w w' := ⟨h.os, h.tape, h.output, h.size, fun k hk => h.block k (by omega) (by omega)⟩
theorem own_set {w : World} {B p : Nat} {e : TypeId} {sz : Nat} {v : Value} {n : Nat} {xs : List Value} (h : w.ownsRow B e sz v n xs) (hne : v.ownBlock ≠ some p) (o : Nat) (u : Value) : (w.setCell ⟨p, o, none⟩ u).ownsRow B e sz v n xs := by
  refine ⟨h.1, ?_⟩
  rcases h.2 with hn | ⟨g, cap, cur, rfl, hg, hgg, rest⟩
  · exact .inl hn
  · exact .inr ⟨g, cap, cur, rfl, hg, (Below.heap_setCell _ _ _ _ (fun e => hne (by rw [e]; rfl))).trans hgg, rest⟩
theorem pinsC_single (p : PinD) : pinsC [p] = pinC p := by simp [pinsC]
theorem pinsC_one' (p : PinD) : ∀ u ∈ pinC p, u.oneCell' = true := by
  rw [← pinsC_single]; exact pinsC_one _
theorem RdAt.set {w : World} {L R p : Nat} {us : List UInt8} (h : RdAt w L R us) (hL : L ≤ p) (hne : p ≠ R) (o : Nat) (v : Value) : RdAt (w.setCell ⟨p, o, none⟩ v) L R us :=
  h.keep (Below.heap_setCell _ _ _ _ (Ne.symm hne)) fun k hk => Below.heap_setCell _ _ _ _ (by show k ≠ p; omega)
/-- It stays where an append writes to a slice of the call's own. -/
theorem rd_grow {w w' : World} {L R B : Nat} {us : List UInt8} {v : Value} (h : RdAt w L R us) (hR : R < B) (hv : ∀ k, v.ownBlock = some k → B ≤ k) (hk : ∀ k, k < w.heap.size → v.ownBlock ≠ some k → w'.heap[k]? = w.heap[k]?) : RdAt w' L R us :=
  h.keep (hk R h.lt fun e => by have := hv R e; omega) fun k hL => hk k (by have := h.low; have := h.lt; omega) fun e => by have := hv k e; have := h.low; omega
set_option maxHeartbeats 1000000 in
theorem rdPins (L R : Nat) (us : List UInt8) (w : World) (h : RdAt w L R us) (hn : us.length ≤ 900000) :
    Calls Tryz.prog 122 #[.pointer (some ⟨R, 0, none⟩), .int .i64 64] w (ReadsP L R w (takeP us).1 (takeP us).2.1 (takeP us).2.2) := by
  have hlt := h.lt
  have HT : Hid (takeP us = ((pinsL (takeI us).1.toNat (takeI us).2.1).1, (pinsL (takeI us).1.toNat (takeI us).2.1).2.1, (takeI us).2.2 && btw (takeI us).1 0 64 && (pinsL (takeI us).1.toNat (takeI us).2.1).2.2)) := Lib.hid rfl
  have HN := Lib.hid (rdNumber L R us w h hn)
  have hle := takeI_le us
  have HLT := Lib.hid hlt; clear h hlt
  generalize takeP us = T at HT ⊢
  generalize takeI us = X at HT HN hle
  obtain ⟨v, u1, ok⟩ := X
  simp only at hle HT HN
  go_enter Tryz.func122, Tryz.ntmps122
  go_wp2_with fail
  refine HN.out.mono ?_
  rintro e w1 ⟨hb, ⟨rfl, rfl, hr⟩ | ⟨rfl, rfl⟩⟩
  · have HB1 := Lib.hid hb; have HR1 := Lib.hid hr; clear hb hr HN
    go_wp2_with fail
    refine (between_any _ _ _ _).mono ?_
    rintro e w2 ⟨rfl, rfl⟩
    cases g : btw v 0 64
    · go_wp2_with fail
      refine (require_no _ _).mono ?_
      rintro e w2 ⟨rfl, rfl⟩
      have HF : Hid (T.2.2 = false) := by unfold Hid; rw [HT.out, g]; rfl
      go_wp2
      exact ⟨rfl, HB1.out, .inr ⟨HF.out, rfl⟩⟩
    · go_wp2_with fail
      refine (require_yes _ _).mono ?_
      rintro e w2 ⟨rfl, rfl⟩
      have hv : 0 ≤ v ∧ v ≤ 64 := by simpa [btw] using g
      obtain ⟨n, rfl⟩ : ∃ n : Nat, v = n := ⟨v.toNat, by omega⟩
      have HT2 : Hid (T = ((pinsL n u1).1, (pinsL n u1).2.1, (pinsL n u1).2.2)) := by unfold Hid; rw [HT.out, g]; simp
      have hn64 : n ≤ 64 := by omega
      clear HT hv g
      go_wp2
      go_loopw [6, 16] (fun x i wr => ∃ j : Nat, j ≤ n ∧ i = .int .i64 j ∧ Hid (POwn wr w.heap.size x (pinsL j u1).1 ∧ RdAt wr L R (pinsL j u1).2.1 ∧ But R w wr ∧ (pinsL j u1).2.2 = true)) (fun _ i _ => n - (intOf i).toNat)
      case atStart => exact ⟨0, Nat.zero_le _, rfl, Lib.hid ⟨World.ownsRow_nil _ _ _ _, HR1.out, HB1.out, rfl⟩⟩
      case round =>
        obtain ⟨j, hj, rfl, HQ⟩ := hrel
        by_cases hlt : j < n
        · have hlj : (pinsL j u1).2.1.length ≤ us.length := Nat.le_trans (pinsL_le u1 j) hle
          have HS : Hid (pinsL (j + 1) u1 = ((pinsL j u1).1 ++ [pinAt (pinsL j u1).2.1], pinRest (pinsL j u1).2.1, (pinsL j u1).2.2 && pinOk (pinsL j u1).2.1)) := Lib.hid rfl
          have HLN := Lib.hid (pinsL_len u1 j)
          have NO : Hid (pinOk (pinsL j u1).2.1 = false → T.2.2 = false) := Lib.hid fun h => by
            rw [HT2.out]
            exact pinsL_no u1 (j := j + 1) (by rw [HS.out, h]; simp) n hlt
          have HPO : Hid (pinOk (pinsL j u1).2.1 = ((takeI (pinsL j u1).2.1).2.2 && (takeI (takeI (pinsL j u1).2.1).2.1).2.2 && (takeS (takeI (takeI (pinsL j u1).2.1).2.1).2.1 32).2.2)) := Lib.hid rfl
          have HPA : Hid (pinAt (pinsL j u1).2.1 = ⟨(takeI (pinsL j u1).2.1).1, (takeI (takeI (pinsL j u1).2.1).2.1).1, (takeS (takeI (takeI (pinsL j u1).2.1).2.1).2.1 32).1⟩) := Lib.hid rfl
          have HPR : Hid (pinRest (pinsL j u1).2.1 = (takeS (takeI (takeI (pinsL j u1).2.1).2.1).2.1 32).2.1) := Lib.hid rfl
          have HO := Lib.hid HQ.out.1; have HR := Lib.hid HQ.out.2.1; have HB := Lib.hid HQ.out.2.2.1; have HK := Lib.hid HQ.out.2.2.2
          clear HQ
          generalize (pinsL j u1).2.1 = x0 at hlj HS NO HPO HPA HPR HR
          generalize (pinsL j u1).1 = l0 at HO HS HLN
          have hx1 := takeI_le x0
          have N0 := Lib.hid (fun w h => rdNumber L R x0 w h (by omega))
          generalize takeI x0 = X0 at hx1 HPO HPA HPR N0
          obtain ⟨a0, x1, k0⟩ := X0
          simp only at hx1 HPO HPA HPR N0
          have hx2 := takeI_le x1
          have N1 := Lib.hid (fun w h => rdNumber L R x1 w h (by omega))
          generalize takeI x1 = X1 at hx2 HPO HPA HPR N1
          obtain ⟨a1, x2, k1⟩ := X1
          simp only at hx2 HPO HPA HPR N1
          have N2 := Lib.hid (fun w h => rdText L R x2 32 w h (by omega))
          generalize takeS x2 32 = X2 at HPO HPA HPR N2
          obtain ⟨a2, x3, k2⟩ := X2
          simp only at HPO HPA HPR N2
          go_wp2_with fail
          obtain ⟨p, hp⟩ : ∃ p, p = wr.heap.size := ⟨_, rfl⟩
          have HX0 : Hid ((wr.alloc (.cells #[.int .i64 0, .int .i64 0, .string ⟨#[]⟩] 74)).heap[wr.heap.size]? = _) := Lib.hid (heap_alloc_new wr (.cells #[.int .i64 0, .int .i64 0, .string ⟨#[]⟩] 74))
          have HB0 := Lib.hid (HB.out.trans (But.of (one_new wr (.cells #[.int .i64 0, .int .i64 0, .string ⟨#[]⟩] 74)))); have HO0 : Hid (POwn (wr.alloc (.cells #[.int .i64 0, .int .i64 0, .string ⟨#[]⟩] 74)) w.heap.size u6 l0) := Lib.hid (World.ownsRow.alloc HO.out _); have HR0 := Lib.hid (HR.out.later (one_new wr (.cells #[.int .i64 0, .int .i64 0, .string ⟨#[]⟩] 74))); have HL0 : Hid (wr.heap.size < (wr.alloc (.cells #[.int .i64 0, .int .i64 0, .string ⟨#[]⟩] 74)).heap.size) := Lib.hid (by simp)
          have HNE : Hid (p ≠ R) := Lib.hid (by rw [hp]; exact Nat.ne_of_gt HR.out.lt)
          have HLP : Hid (L ≤ p) := Lib.hid (by rw [hp]; exact Nat.le_trans HR.out.low (Nat.le_of_lt HR.out.lt))
          have HPW : Hid (w.heap.size ≤ p) := Lib.hid (by rw [hp]; exact HB.out.size)
          have HOL : Hid (∀ k, Value.ownBlock u6 = some k → k < p) := Lib.hid fun k hk => by rw [hp]; exact (World.ownsRow.lt HO.out k hk).2
          rw [← hp] at HX0 HL0 ⊢
          clear hp HB HO HR
          generalize wr.alloc (.cells #[.int .i64 0, .int .i64 0, .string ⟨#[]⟩] 74) = w0 at HX0 HB0 HO0 HR0 HL0 ⊢
          refine (N0.out _ HR0.out).mono ?_
          rintro e w1 ⟨hb, ⟨hk0, rfl, hr⟩ | ⟨hk0, rfl⟩⟩
          rotate_left
          · have HF := Lib.hid (NO.out (by rw [HPO.out, hk0]; rfl))
            have HB' := Lib.hid (HB0.out.trans hb)
            go_wp2
            exact ⟨rfl, HB'.out, .inr ⟨HF.out, rfl⟩⟩
          have HX1a := Lib.hid ((hb.block p HL0.out HNE.out).trans HX0.out); have HB1a := Lib.hid (HB0.out.trans hb); have HO1a : Hid (POwn w1 w.heap.size u6 l0) := Lib.hid (own_but HO0.out hb HLT.out); have HR1a := Lib.hid hr; have HL1 : Hid (p < w1.heap.size) := Lib.hid (Nat.lt_of_lt_of_le HL0.out hb.size)
          clear hb hr HX0 HB0 HO0 HR0
          have hz : w1.frozen? ⟨p, 0, none⟩ = false := frozen_of_row _ _ _ _ _ HX1a.out
          have hc : w1.cell? ⟨p, 0, none⟩ = some (.int .i64 0) := by rw [cell_of_row _ _ _ _ _ _ HX1a.out]; rfl
          go_wp2_with fail
          have HX1 : Hid ((w1.setCell ⟨p, 0, none⟩ (.int .i64 a0)).heap[p]? = some (.cells #[.int .i64 a0, .int .i64 0, .string ⟨#[]⟩] 74 (0, 0))) := Lib.hid (heap_setCell_same _ _ _ _ _ _ HX1a.out)
          have HB1 := Lib.hid (HB1a.out.grow (but_new HPW.out (But.set w1 0 (.int .i64 a0)) HB1a.out.size)); have HO1 : Hid (POwn (w1.setCell ⟨p, 0, none⟩ (.int .i64 a0)) w.heap.size u6 l0) := Lib.hid (own_set HO1a.out (fun hh => Nat.lt_irrefl _ (HOL.out p hh)) 0 _); have HR1 := Lib.hid (HR1a.out.set HLP.out HNE.out 0 (.int .i64 a0))
          have HL1' : Hid (p < (w1.setCell ⟨p, 0, none⟩ (.int .i64 a0)).heap.size) := Lib.hid (by rw [World.size_setCell]; exact HL1.out)
          clear hz hc HX1a HB1a HO1a HR1a HL1
          generalize w1.setCell ⟨p, 0, none⟩ (.int .i64 a0) = y1 at HX1 HB1 HO1 HR1 HL1' ⊢
          have HL1 := HL1'; clear HL1'
          refine (N1.out _ HR1.out).mono ?_
          rintro e w2 ⟨hb, ⟨hk1, rfl, hr⟩ | ⟨hk1, rfl⟩⟩
          rotate_left
          · have HF := Lib.hid (NO.out (by rw [HPO.out, hk0, hk1]; simp))
            have HB' := Lib.hid (HB1.out.trans hb)
            go_wp2
            exact ⟨rfl, HB'.out, .inr ⟨HF.out, rfl⟩⟩
          have HX2a := Lib.hid ((hb.block p HL1.out HNE.out).trans HX1.out); have HB2a := Lib.hid (HB1.out.trans hb); have HO2a : Hid (POwn w2 w.heap.size u6 l0) := Lib.hid (own_but HO1.out hb HLT.out); have HR2a := Lib.hid hr; have HL2 : Hid (p < w2.heap.size) := Lib.hid (Nat.lt_of_lt_of_le HL1.out hb.size)
          clear hb hr HX1 HB1 HO1 HR1
          have hz : w2.frozen? ⟨p, 1, none⟩ = false := frozen_of_row _ _ _ _ _ HX2a.out
          have hc : w2.cell? ⟨p, 1, none⟩ = some (.int .i64 0) := by rw [cell_of_row _ _ _ _ _ _ HX2a.out]; rfl
          go_wp2_with fail
          have HX2 : Hid ((w2.setCell ⟨p, 1, none⟩ (.int .i64 a1)).heap[p]? = some (.cells #[.int .i64 a0, .int .i64 a1, .string ⟨#[]⟩] 74 (0, 0))) := Lib.hid (heap_setCell_same _ _ _ _ _ _ HX2a.out)
          have HB2 := Lib.hid (HB2a.out.grow (but_new HPW.out (But.set w2 1 (.int .i64 a1)) HB2a.out.size)); have HO2 : Hid (POwn (w2.setCell ⟨p, 1, none⟩ (.int .i64 a1)) w.heap.size u6 l0) := Lib.hid (own_set HO2a.out (fun hh => Nat.lt_irrefl _ (HOL.out p hh)) 1 _); have HR2 := Lib.hid (HR2a.out.set HLP.out HNE.out 1 (.int .i64 a1))
          have HL2' : Hid (p < (w2.setCell ⟨p, 1, none⟩ (.int .i64 a1)).heap.size) := Lib.hid (by rw [World.size_setCell]; exact HL2.out)
          clear hz hc HX2a HB2a HO2a HR2a HL2
          generalize w2.setCell ⟨p, 1, none⟩ (.int .i64 a1) = y2 at HX2 HB2 HO2 HR2 HL2' ⊢
          have HL2 := HL2'; clear HL2'
          refine (N2.out _ HR2.out).mono ?_
          rintro e w3 ⟨hb, ⟨hk2, rfl, hr⟩ | ⟨hk2, rfl⟩⟩
          rotate_left
          · have HF := Lib.hid (NO.out (by rw [HPO.out, hk0, hk1, hk2]; simp))
            have HB' := Lib.hid (HB2.out.trans hb)
            go_wp2
            exact ⟨rfl, HB'.out, .inr ⟨HF.out, rfl⟩⟩
          have HX3a := Lib.hid ((hb.block p HL2.out HNE.out).trans HX2.out); have HB3a := Lib.hid (HB2.out.trans hb); have HO3a : Hid (POwn w3 w.heap.size u6 l0) := Lib.hid (own_but HO2.out hb HLT.out); have HR3a := Lib.hid hr; have HL3 : Hid (p < w3.heap.size) := Lib.hid (Nat.lt_of_lt_of_le HL2.out hb.size)
          clear hb hr HX2 HB2 HO2 HR2
          have hz : w3.frozen? ⟨p, 2, none⟩ = false := frozen_of_row _ _ _ _ _ HX3a.out
          have hc : w3.cell? ⟨p, 2, none⟩ = some (.string ⟨#[]⟩) := by rw [cell_of_row _ _ _ _ _ _ HX3a.out]; rfl
          have hc0 : w3.cell? ⟨p, 0, none⟩ = some (.int .i64 a0) := by rw [cell_of_row _ _ _ _ _ _ HX3a.out]; rfl
          have hc1 : w3.cell? ⟨p, 1, none⟩ = some (.int .i64 a1) := by rw [cell_of_row _ _ _ _ _ _ HX3a.out]; rfl
          have hlen : l0.length ≤ 64 := by rw [HLN.out]; omega
          have HO3 : Hid (POwn (w3.setCell ⟨p, 2, none⟩ (.string a2)) w.heap.size u6 l0) := Lib.hid (own_set HO3a.out (fun hh => Nat.lt_irrefl _ (HOL.out p hh)) 2 _); have HB3 := Lib.hid (HB3a.out.grow (but_new HPW.out (But.set w3 2 (.string a2)) HB3a.out.size)); have HR3 := Lib.hid (HR3a.out.set HLP.out HNE.out 2 (.string a2))
          have HV3 : Hid (∀ k, Value.ownBlock u6 = some k → w.heap.size ≤ k) := Lib.hid fun k hk => (World.ownsRow.lt HO3a.out k hk).1
          have hb3 : Below (w3.setCell ⟨p, 2, none⟩ (.string a2)).heap.size (w3.setCell ⟨p, 2, none⟩ (.string a2)) ((w3.setCell ⟨p, 2, none⟩ (.string a2)).alloc (.cells #[.int .i64 a0, .int .i64 a1, .string a2] 74)) := one_new _ _
          have hrx : Row ((w3.setCell ⟨p, 2, none⟩ (.string a2)).alloc (.cells #[.int .i64 a0, .int .i64 a1, .string a2] 74)) (some ⟨(w3.setCell ⟨p, 2, none⟩ (.string a2)).heap.size, 0, none⟩) 1 1 3 (pinC ⟨a0, a1, a2⟩) := Row.of_block (cs := #[.int .i64 a0, .int .i64 a1, .string a2]) (heap_alloc_new _ _) rfl
          rw [World.size_setCell] at hrx
          have HRX := Lib.hid hrx; have HBX := Lib.hid (HB3.out.grow (hb3.mono HB3.out.size)); have HOX : Hid (POwn ((w3.setCell ⟨p, 2, none⟩ (.string a2)).alloc (.cells #[.int .i64 a0, .int .i64 a1, .string a2] 74)) w.heap.size u6 l0) := Lib.hid (World.ownsRow.alloc HO3.out _); have HRR := Lib.hid (HR3.out.later hb3); have HSX : Hid (w.heap.size ≤ ((w3.setCell ⟨p, 2, none⟩ (.string a2)).alloc (.cells #[.int .i64 a0, .int .i64 a1, .string a2] 74)).heap.size) := Lib.hid (Nat.le_trans HB3.out.size hb3.size)
          clear hb3 hrx
          go_wp2_with (at_builtin; go_must (refine wpList_appK _ rfl (.tmp 27) (.tmp 29) 23 23 74 rfl w.heap.size Tryz.underlying23 pin_inf rfl u6 _ _ HOX.out rfl _ 1 (pinC ⟨a0, a1, a2⟩) (Row.src HRX.out Tryz.underlying23 (pinsC_one' _)) rfl (by unfold maxLen; omega) (by omega) HSX.out ?_); intro v4 w4 ho4 hb4 hk4; have HO4 := Lib.hid ho4; have HB4 := Lib.hid (HBX.out.grow hb4); have HR4 := Lib.hid (rd_grow HRR.out HLT.out HV3.out hk4); clear ho4 hb4 hk4)
          have hks : k0 = true ∧ k1 = true ∧ k2 = true := ⟨hk0, hk1, hk2⟩
          refine ⟨⟨j + 1, hlt, by go_num, Lib.hid ⟨?_, ?_, HB4.out, ?_⟩⟩, by simp [intOf]; omega⟩
          · rw [HS.out, HPA.out]
            unfold POwn
            rw [pinsC_app, List.length_append, pinsC_single]
            exact HO4.out
          · rw [HS.out, HPR.out]; exact HR4.out
          · rw [HS.out, HPO.out, HK.out, hk0, hk1, hk2]; rfl
        · have HE : Hid (j = n) := by unfold Hid; omega
          obtain ⟨B1, b1, hv, hrow⟩ := Row.of_own HQ.out.1
          subst hv
          have HRW := Lib.hid hrow; clear hrow
          have HNW : Hid (∀ ad, B1 = some ad → w.heap.size ≤ ad.block ∧ ad.block < wr.heap.size) := Lib.hid fun ad hA => by subst hA; exact World.ownsRow.lt HQ.out.1 _ rfl
          go_wp2
          go_ret
          have hj := HE.out
          subst hj
          exact ⟨HQ.out.2.2.1, .inl ⟨by rw [HT2.out]; exact HQ.out.2.2.2, ⟨B1, _, b1, rfl, by rw [HT2.out]; exact HRW.out, HNW.out⟩, by rw [HT2.out]; exact HQ.out.2.1⟩⟩
  · have HF : Hid (T.2.2 = false) := by unfold Hid; rw [HT.out]; rfl
    go_wp2
    exact ⟨rfl, hb, .inr ⟨HF.out, rfl⟩⟩
end Go.Proofs.YtkglgboncngpbaaGreatDoor
/- What is read of a statement; the walk of the reader's statement. -/
namespace Go.Proofs.YtkglgboncngpbaaGreatDoor
open Go.RowKit
/-- What bytes say: a statement, the bytes behind it, whether there is one. -/
noncomputable def parse (us : List UInt8) : Stm × List UInt8 × Bool :=
  let x0 := takeI us
  let x1 := takeI x0.2.1
  let x2 := takeS x1.2.1 32
  let x3 := takeI x2.2.1
  let x4 := takeI x3.2.1
  let x5 := takeI x4.2.1
  let x6 := takeI x5.2.1
  let x7 := takeI x6.2.1
  let x8 := takeL x7.2.1 64
  let x9 := takeP x8.2.1
  let x10 := takeS x9.2.1 4096
  let x11 := takeI x10.2.1
  let x12 := takeS x11.2.1 32
  (⟨x0.1, x1.1, x2.1, x3.1, x4.1, x5.1, x6.1, x7.1, x8.1, x9.1, x10.1, x11.1, x12.1⟩, x12.2.1, x0.2.2 && x1.2.2 && x2.2.2 && x3.2.2 && x4.2.2 && x5.2.2 && x6.2.2 && x7.2.2 && x8.2.2 && x9.2.2 && x10.2.2 && x11.2.2 && x12.2.2)
def ReadsS (L R : Nat) (w : World) (s : Stm) (rest : List UInt8) (ok : Bool) (e : Ending) (w' : World) : Prop :=
  But R w w' ∧ ((ok = true ∧ (∃ A n c B m k, e = .returned (stmV s A n c B m k) ∧ IRow w' A n c s.list ∧ PRow w' B m k s.pins ∧ New w w' A ∧ New w w' B) ∧ RdAt w' L R rest) ∨ (ok = false ∧ e = .panicked [noSt]))
theorem but_up {R p : Nat} {w w' : World} (h : But R w w') {A : Option Addr} {n c sz : Nat} {cs : List Value} (hr : Row w A n c sz cs) (hp : ∀ ad, A = some ad → p < ad.block) (hR : R ≤ p) : Row w' A n c sz cs :=
  Row.but hr h fun ad hA _ => by have := hp ad hA; omega
theorem set_up {p : Nat} {w : World} {A : Option Addr} {n c sz : Nat} {cs : List Value} (hr : Row w A n c sz cs) (hp : ∀ ad, A = some ad → p < ad.block) (o : Nat) (v : Value) : Row (w.setCell ⟨p, o, none⟩ v) A n c sz cs :=
  Row.keep hr fun ad hA _ _ => Below.heap_setCell _ _ _ _ (by have := hp ad hA; show ad.block ≠ p; omega)
set_option maxRecDepth 100000 in
set_option maxHeartbeats 4000000 in
theorem rdStatement (L R : Nat) (us : List UInt8) (w : World) (h : RdAt w L R us) (hn : us.length ≤ 900000) :
    Calls Tryz.prog 113 #[.pointer (some ⟨R, 0, none⟩)] w (ReadsS L R w (parse us).1 (parse us).2.1 (parse us).2.2) := by
  obtain ⟨X0, hX0⟩ : ∃ X, X = takeI us := ⟨_, rfl⟩
  obtain ⟨X1, hX1⟩ : ∃ X, X = takeI X0.2.1 := ⟨_, rfl⟩
  obtain ⟨X2, hX2⟩ : ∃ X, X = takeS X1.2.1 32 := ⟨_, rfl⟩
  obtain ⟨X3, hX3⟩ : ∃ X, X = takeI X2.2.1 := ⟨_, rfl⟩
  obtain ⟨X4, hX4⟩ : ∃ X, X = takeI X3.2.1 := ⟨_, rfl⟩
  obtain ⟨X5, hX5⟩ : ∃ X, X = takeI X4.2.1 := ⟨_, rfl⟩
  obtain ⟨X6, hX6⟩ : ∃ X, X = takeI X5.2.1 := ⟨_, rfl⟩
  obtain ⟨X7, hX7⟩ : ∃ X, X = takeI X6.2.1 := ⟨_, rfl⟩
  obtain ⟨X8, hX8⟩ : ∃ X, X = takeL X7.2.1 64 := ⟨_, rfl⟩
  obtain ⟨X9, hX9⟩ : ∃ X, X = takeP X8.2.1 := ⟨_, rfl⟩
  obtain ⟨X10, hX10⟩ : ∃ X, X = takeS X9.2.1 4096 := ⟨_, rfl⟩
  obtain ⟨X11, hX11⟩ : ∃ X, X = takeI X10.2.1 := ⟨_, rfl⟩
  obtain ⟨X12, hX12⟩ : ∃ X, X = takeS X11.2.1 32 := ⟨_, rfl⟩
  have HP : Hid (parse us = (⟨X0.1, X1.1, X2.1, X3.1, X4.1, X5.1, X6.1, X7.1, X8.1, X9.1, X10.1, X11.1, X12.1⟩, X12.2.1, X0.2.2 && X1.2.2 && X2.2.2 && X3.2.2 && X4.2.2 && X5.2.2 && X6.2.2 && X7.2.2 && X8.2.2 && X9.2.2 && X10.2.2 && X11.2.2 && X12.2.2)) := by
    subst hX12; subst hX11; subst hX10; subst hX9; subst hX8; subst hX7; subst hX6; subst hX5; subst hX4; subst hX3; subst hX2; subst hX1; subst hX0; exact Lib.hid rfl
  have hl0 : X0.2.1.length ≤ 900000 := by rw [hX0]; exact Nat.le_trans (takeI_le us) hn
  have N0 := Lib.hid (fun w h => rdNumber L R us w h hn)
  rw [← hX0] at N0
  have hl1 : X1.2.1.length ≤ 900000 := by rw [hX1]; exact Nat.le_trans (takeI_le X0.2.1) hl0
  have N1 := Lib.hid (fun w h => rdNumber L R X0.2.1 w h hl0)
  rw [← hX1] at N1
  have hl2 : X2.2.1.length ≤ 900000 := by rw [hX2]; exact Nat.le_trans (takeS_le X1.2.1 32) hl1
  have N2 := Lib.hid (fun w h => rdText L R X1.2.1 32 w h hl1)
  rw [← hX2] at N2
  have hl3 : X3.2.1.length ≤ 900000 := by rw [hX3]; exact Nat.le_trans (takeI_le X2.2.1) hl2
  have N3 := Lib.hid (fun w h => rdNumber L R X2.2.1 w h hl2)
  rw [← hX3] at N3
  have hl4 : X4.2.1.length ≤ 900000 := by rw [hX4]; exact Nat.le_trans (takeI_le X3.2.1) hl3
  have N4 := Lib.hid (fun w h => rdNumber L R X3.2.1 w h hl3)
  rw [← hX4] at N4
  have hl5 : X5.2.1.length ≤ 900000 := by rw [hX5]; exact Nat.le_trans (takeI_le X4.2.1) hl4
  have N5 := Lib.hid (fun w h => rdNumber L R X4.2.1 w h hl4)
  rw [← hX5] at N5
  have hl6 : X6.2.1.length ≤ 900000 := by rw [hX6]; exact Nat.le_trans (takeI_le X5.2.1) hl5
  have N6 := Lib.hid (fun w h => rdNumber L R X5.2.1 w h hl5)
  rw [← hX6] at N6
  have hl7 : X7.2.1.length ≤ 900000 := by rw [hX7]; exact Nat.le_trans (takeI_le X6.2.1) hl6
  have N7 := Lib.hid (fun w h => rdNumber L R X6.2.1 w h hl6)
  rw [← hX7] at N7
  have hl8 : X8.2.1.length ≤ 900000 := by rw [hX8]; exact Nat.le_trans (takeL_le X7.2.1 64) hl7
  have N8 := Lib.hid (fun w h => rdList L R X7.2.1 64 w h hl7)
  rw [← hX8] at N8
  have hl9 : X9.2.1.length ≤ 900000 := by rw [hX9]; exact Nat.le_trans (takeP_le X8.2.1) hl8
  have N9 := Lib.hid (fun w h => rdPins L R X8.2.1 w h hl8)
  rw [← hX9] at N9
  have hl10 : X10.2.1.length ≤ 900000 := by rw [hX10]; exact Nat.le_trans (takeS_le X9.2.1 4096) hl9
  have N10 := Lib.hid (fun w h => rdText L R X9.2.1 4096 w h hl9)
  rw [← hX10] at N10
  have hl11 : X11.2.1.length ≤ 900000 := by rw [hX11]; exact Nat.le_trans (takeI_le X10.2.1) hl10
  have N11 := Lib.hid (fun w h => rdNumber L R X10.2.1 w h hl10)
  rw [← hX11] at N11
  have hl12 : X12.2.1.length ≤ 900000 := by rw [hX12]; exact Nat.le_trans (takeS_le X11.2.1 32) hl11
  have N12 := Lib.hid (fun w h => rdText L R X11.2.1 32 w h hl11)
  rw [← hX12] at N12
  clear hX0 hl0 hX1 hl1 hX2 hl2 hX3 hl3 hX4 hl4 hX5 hl5 hX6 hl6 hX7 hl7 hX8 hl8 hX9 hl9 hX10 hl10 hX11 hl11 hX12 hl12
  generalize parse us = T at HP ⊢
  generalize us = r0 at h N0
  clear hn
  obtain ⟨v0, r1, k0⟩ := X0
  obtain ⟨v1, r2, k1⟩ := X1
  obtain ⟨v2, r3, k2⟩ := X2
  obtain ⟨v3, r4, k3⟩ := X3
  obtain ⟨v4, r5, k4⟩ := X4
  obtain ⟨v5, r6, k5⟩ := X5
  obtain ⟨v6, r7, k6⟩ := X6
  obtain ⟨v7, r8, k7⟩ := X7
  obtain ⟨v8, r9, k8⟩ := X8
  obtain ⟨v9, r10, k9⟩ := X9
  obtain ⟨v10, r11, k10⟩ := X10
  obtain ⟨v11, r12, k11⟩ := X11
  obtain ⟨v12, r13, k12⟩ := X12
  simp only at HP N0 N1 N2 N3 N4 N5 N6 N7 N8 N9 N10 N11 N12
  obtain ⟨s, r, ok⟩ := T
  simp only [Prod.mk.injEq] at HP
  have HS : Hid (s = ⟨v0, v1, v2, v3, v4, v5, v6, v7, v8, v9, v10, v11, v12⟩) := Lib.hid HP.out.1
  have HRR : Hid (r = r13) := Lib.hid HP.out.2.1
  have HK : Hid (ok = (k0 && k1 && k2 && k3 && k4 && k5 && k6 && k7 && k8 && k9 && k10 && k11 && k12)) := Lib.hid HP.out.2.2
  clear HP
  simp only
  have hlt := h.lt
  obtain ⟨p, hp⟩ : ∃ p, p = w.heap.size + 1 := ⟨_, rfl⟩
  have HPP := Lib.hid hp
  have hb0 : Below w.heap.size w ((w.alloc (.cells #[.int .i64 0, .int .i64 0, .string ⟨#[]⟩, .int .i64 0, .int .i64 0, .int .i64 0, .int .i64 0, .int .i64 0, .slice none 0 0, .slice none 0 0, .string ⟨#[]⟩, .int .i64 0, .string ⟨#[]⟩] 27)).alloc (.cells #[.int .i64 0, .int .i64 0, .string ⟨#[]⟩, .int .i64 0, .int .i64 0, .int .i64 0, .int .i64 0, .int .i64 0, .slice none 0 0, .slice none 0 0, .string ⟨#[]⟩, .int .i64 0, .string ⟨#[]⟩] 27)) := (one_new w _).alloc (by simp) _
  have HQ0 : Hid (((w.alloc (.cells #[.int .i64 0, .int .i64 0, .string ⟨#[]⟩, .int .i64 0, .int .i64 0, .int .i64 0, .int .i64 0, .int .i64 0, .slice none 0 0, .slice none 0 0, .string ⟨#[]⟩, .int .i64 0, .string ⟨#[]⟩] 27)).alloc (.cells #[.int .i64 0, .int .i64 0, .string ⟨#[]⟩, .int .i64 0, .int .i64 0, .int .i64 0, .int .i64 0, .int .i64 0, .slice none 0 0, .slice none 0 0, .string ⟨#[]⟩, .int .i64 0, .string ⟨#[]⟩] 27)).heap[w.heap.size]? = _) := Lib.hid ((Below.heap_alloc _ _ _ (by simp)).trans (heap_alloc_new w (.cells #[.int .i64 0, .int .i64 0, .string ⟨#[]⟩, .int .i64 0, .int .i64 0, .int .i64 0, .int .i64 0, .int .i64 0, .slice none 0 0, .slice none 0 0, .string ⟨#[]⟩, .int .i64 0, .string ⟨#[]⟩] 27)))
  have hy0 : ((w.alloc (.cells #[.int .i64 0, .int .i64 0, .string ⟨#[]⟩, .int .i64 0, .int .i64 0, .int .i64 0, .int .i64 0, .int .i64 0, .slice none 0 0, .slice none 0 0, .string ⟨#[]⟩, .int .i64 0, .string ⟨#[]⟩] 27)).alloc (.cells #[.int .i64 0, .int .i64 0, .string ⟨#[]⟩, .int .i64 0, .int .i64 0, .int .i64 0, .int .i64 0, .int .i64 0, .slice none 0 0, .slice none 0 0, .string ⟨#[]⟩, .int .i64 0, .string ⟨#[]⟩] 27)).heap[(w.alloc (.cells #[.int .i64 0, .int .i64 0, .string ⟨#[]⟩, .int .i64 0, .int .i64 0, .int .i64 0, .int .i64 0, .int .i64 0, .slice none 0 0, .slice none 0 0, .string ⟨#[]⟩, .int .i64 0, .string ⟨#[]⟩] 27)).heap.size]? = _ := heap_alloc_new (w.alloc (.cells #[.int .i64 0, .int .i64 0, .string ⟨#[]⟩, .int .i64 0, .int .i64 0, .int .i64 0, .int .i64 0, .int .i64 0, .slice none 0 0, .slice none 0 0, .string ⟨#[]⟩, .int .i64 0, .string ⟨#[]⟩] 27)) (.cells #[.int .i64 0, .int .i64 0, .string ⟨#[]⟩, .int .i64 0, .int .i64 0, .int .i64 0, .int .i64 0, .int .i64 0, .slice none 0 0, .slice none 0 0, .string ⟨#[]⟩, .int .i64 0, .string ⟨#[]⟩] 27)
  rw [show (w.alloc (.cells #[.int .i64 0, .int .i64 0, .string ⟨#[]⟩, .int .i64 0, .int .i64 0, .int .i64 0, .int .i64 0, .int .i64 0, .slice none 0 0, .slice none 0 0, .string ⟨#[]⟩, .int .i64 0, .string ⟨#[]⟩] 27)).heap.size = p by rw [hp]; simp] at hy0
  have HX0 := Lib.hid hy0
  have HL0 : Hid (p < ((w.alloc (.cells #[.int .i64 0, .int .i64 0, .string ⟨#[]⟩, .int .i64 0, .int .i64 0, .int .i64 0, .int .i64 0, .int .i64 0, .slice none 0 0, .slice none 0 0, .string ⟨#[]⟩, .int .i64 0, .string ⟨#[]⟩] 27)).alloc (.cells #[.int .i64 0, .int .i64 0, .string ⟨#[]⟩, .int .i64 0, .int .i64 0, .int .i64 0, .int .i64 0, .int .i64 0, .slice none 0 0, .slice none 0 0, .string ⟨#[]⟩, .int .i64 0, .string ⟨#[]⟩] 27)).heap.size) := Lib.hid (by rw [hp]; simp)
  have HB0 := Lib.hid (But.of (D := R) hb0)
  have HR0 := Lib.hid (h.later hb0)
  have HLR := Lib.hid h.low
  have HRp : Hid (R < w.heap.size) := Lib.hid hlt
  clear hb0 hy0 hp h hlt
  go_enter Tryz.func113, Tryz.ntmps113
  go_wp2_with fail
  rw [← HPP.out]
  generalize (w.alloc (.cells #[.int .i64 0, .int .i64 0, .string ⟨#[]⟩, .int .i64 0, .int .i64 0, .int .i64 0, .int .i64 0, .int .i64 0, .slice none 0 0, .slice none 0 0, .string ⟨#[]⟩, .int .i64 0, .string ⟨#[]⟩] 27)).alloc (.cells #[.int .i64 0, .int .i64 0, .string ⟨#[]⟩, .int .i64 0, .int .i64 0, .int .i64 0, .int .i64 0, .int .i64 0, .slice none 0 0, .slice none 0 0, .string ⟨#[]⟩, .int .i64 0, .string ⟨#[]⟩] 27) = y0 at HQ0 HX0 HL0 HB0 HR0 ⊢
  refine (N0.out y0 HR0.out).mono ?_
  rintro e w1 ⟨hb, ⟨hk0, rfl, hr⟩ | ⟨hk0, rfl⟩⟩
  rotate_left
  · have HF : Hid (ok = false) := Lib.hid (by rw [HK.out, hk0]; simp)
    have HB' := Lib.hid (HB0.out.trans hb)
    go_wp2
    exact ⟨rfl, HB'.out, .inr ⟨HF.out, rfl⟩⟩
  have HNE : Hid (p ≠ R) := Lib.hid (by have := HPP.out; have := HRp.out; omega)
  have HXa := Lib.hid ((hb.block p HL0.out HNE.out).trans HX0.out); have HBa := Lib.hid (HB0.out.trans hb); have HRa := Lib.hid hr; have HLa : Hid (p < w1.heap.size) := Lib.hid (Nat.lt_of_lt_of_le HL0.out hb.size)
  have HQa := Lib.hid ((hb.block w.heap.size (by have := HL0.out; have := HPP.out; omega) (by have := HRp.out; omega)).trans HQ0.out)
  clear hb hr HX0 HB0 HR0 HQ0 HL0 N0 
  have hz : w1.frozen? ⟨p, 0, none⟩ = false := frozen_of_row _ _ _ _ _ HXa.out
  have hc : w1.cell? ⟨p, 0, none⟩ = some (.int .i64 0) := by rw [cell_of_row _ _ _ _ _ _ HXa.out]; rfl
  go_wp2_with fail
  have HX1 : Hid ((w1.setCell ⟨p, 0, none⟩ (.int .i64 v0)).heap[p]? = some (.cells #[.int .i64 v0, .int .i64 0, .string ⟨#[]⟩, .int .i64 0, .int .i64 0, .int .i64 0, .int .i64 0, .int .i64 0, .slice none 0 0, .slice none 0 0, .string ⟨#[]⟩, .int .i64 0, .string ⟨#[]⟩] 27 (0, 0))) := Lib.hid (heap_setCell_same _ _ _ _ _ _ HXa.out)
  have HB1 := Lib.hid (HBa.out.grow (but_new (p := p) (a := w) (by have := HPP.out; omega) (But.set w1 0 (.int .i64 v0)) HBa.out.size)); have HR1 := Lib.hid (HRa.out.set (p := p) (by have := HPP.out; have := HRp.out; have := HLR.out; omega) HNE.out 0 (.int .i64 v0))
  have HQ1 : Hid ((w1.setCell ⟨p, 0, none⟩ (.int .i64 v0)).heap[w.heap.size]? = _) := Lib.hid ((Below.heap_setCell _ _ _ _ (by have := HPP.out; show w.heap.size ≠ p; omega)).trans HQa.out)
  have HL1' : Hid (p < (w1.setCell ⟨p, 0, none⟩ (.int .i64 v0)).heap.size) := Lib.hid (by rw [World.size_setCell]; exact HLa.out)
  clear hz hc HXa HBa HRa HQa HLa HNE 
  generalize (w1.setCell ⟨p, 0, none⟩ (.int .i64 v0)) = y1 at HX1 HB1 HR1 HQ1 HL1'  ⊢
  have HL1 := HL1'
  clear HL1'
  refine (N1.out y1 HR1.out).mono ?_
  rintro e w2 ⟨hb, ⟨hk1, rfl, hr⟩ | ⟨hk1, rfl⟩⟩
  rotate_left
  · have HF : Hid (ok = false) := Lib.hid (by rw [HK.out, hk0, hk1]; simp)
    have HB' := Lib.hid (HB1.out.trans hb)
    go_wp2
    exact ⟨rfl, HB'.out, .inr ⟨HF.out, rfl⟩⟩
  have HNE : Hid (p ≠ R) := Lib.hid (by have := HPP.out; have := HRp.out; omega)
  have HXa := Lib.hid ((hb.block p HL1.out HNE.out).trans HX1.out); have HBa := Lib.hid (HB1.out.trans hb); have HRa := Lib.hid hr; have HLa : Hid (p < w2.heap.size) := Lib.hid (Nat.lt_of_lt_of_le HL1.out hb.size)
  have HQa := Lib.hid ((hb.block w.heap.size (by have := HL1.out; have := HPP.out; omega) (by have := HRp.out; omega)).trans HQ1.out)
  clear hb hr HX1 HB1 HR1 HQ1 HL1 N1 
  have hz : w2.frozen? ⟨p, 1, none⟩ = false := frozen_of_row _ _ _ _ _ HXa.out
  have hc : w2.cell? ⟨p, 1, none⟩ = some (.int .i64 0) := by rw [cell_of_row _ _ _ _ _ _ HXa.out]; rfl
  go_wp2_with fail
  have HX2 : Hid ((w2.setCell ⟨p, 1, none⟩ (.int .i64 v1)).heap[p]? = some (.cells #[.int .i64 v0, .int .i64 v1, .string ⟨#[]⟩, .int .i64 0, .int .i64 0, .int .i64 0, .int .i64 0, .int .i64 0, .slice none 0 0, .slice none 0 0, .string ⟨#[]⟩, .int .i64 0, .string ⟨#[]⟩] 27 (0, 0))) := Lib.hid (heap_setCell_same _ _ _ _ _ _ HXa.out)
  have HB2 := Lib.hid (HBa.out.grow (but_new (p := p) (a := w) (by have := HPP.out; omega) (But.set w2 1 (.int .i64 v1)) HBa.out.size)); have HR2 := Lib.hid (HRa.out.set (p := p) (by have := HPP.out; have := HRp.out; have := HLR.out; omega) HNE.out 1 (.int .i64 v1))
  have HQ2 : Hid ((w2.setCell ⟨p, 1, none⟩ (.int .i64 v1)).heap[w.heap.size]? = _) := Lib.hid ((Below.heap_setCell _ _ _ _ (by have := HPP.out; show w.heap.size ≠ p; omega)).trans HQa.out)
  have HL2' : Hid (p < (w2.setCell ⟨p, 1, none⟩ (.int .i64 v1)).heap.size) := Lib.hid (by rw [World.size_setCell]; exact HLa.out)
  clear hz hc HXa HBa HRa HQa HLa HNE 
  generalize (w2.setCell ⟨p, 1, none⟩ (.int .i64 v1)) = y2 at HX2 HB2 HR2 HQ2 HL2'  ⊢
  have HL2 := HL2'
  clear HL2'
  refine (N2.out y2 HR2.out).mono ?_
  rintro e w3 ⟨hb, ⟨hk2, rfl, hr⟩ | ⟨hk2, rfl⟩⟩
  rotate_left
  · have HF : Hid (ok = false) := Lib.hid (by rw [HK.out, hk0, hk1, hk2]; simp)
    have HB' := Lib.hid (HB2.out.trans hb)
    go_wp2
    exact ⟨rfl, HB'.out, .inr ⟨HF.out, rfl⟩⟩
  have HNE : Hid (p ≠ R) := Lib.hid (by have := HPP.out; have := HRp.out; omega)
  have HXa := Lib.hid ((hb.block p HL2.out HNE.out).trans HX2.out); have HBa := Lib.hid (HB2.out.trans hb); have HRa := Lib.hid hr; have HLa : Hid (p < w3.heap.size) := Lib.hid (Nat.lt_of_lt_of_le HL2.out hb.size)
  have HQa := Lib.hid ((hb.block w.heap.size (by have := HL2.out; have := HPP.out; omega) (by have := HRp.out; omega)).trans HQ2.out)
  clear hb hr HX2 HB2 HR2 HQ2 HL2 N2 
  have hz : w3.frozen? ⟨p, 2, none⟩ = false := frozen_of_row _ _ _ _ _ HXa.out
  have hc : w3.cell? ⟨p, 2, none⟩ = some (.string ⟨#[]⟩) := by rw [cell_of_row _ _ _ _ _ _ HXa.out]; rfl
  go_wp2_with fail
  have HX3 : Hid ((w3.setCell ⟨p, 2, none⟩ (.string v2)).heap[p]? = some (.cells #[.int .i64 v0, .int .i64 v1, .string v2, .int .i64 0, .int .i64 0, .int .i64 0, .int .i64 0, .int .i64 0, .slice none 0 0, .slice none 0 0, .string ⟨#[]⟩, .int .i64 0, .string ⟨#[]⟩] 27 (0, 0))) := Lib.hid (heap_setCell_same _ _ _ _ _ _ HXa.out)
  have HB3 := Lib.hid (HBa.out.grow (but_new (p := p) (a := w) (by have := HPP.out; omega) (But.set w3 2 (.string v2)) HBa.out.size)); have HR3 := Lib.hid (HRa.out.set (p := p) (by have := HPP.out; have := HRp.out; have := HLR.out; omega) HNE.out 2 (.string v2))
  have HQ3 : Hid ((w3.setCell ⟨p, 2, none⟩ (.string v2)).heap[w.heap.size]? = _) := Lib.hid ((Below.heap_setCell _ _ _ _ (by have := HPP.out; show w.heap.size ≠ p; omega)).trans HQa.out)
  have HL3' : Hid (p < (w3.setCell ⟨p, 2, none⟩ (.string v2)).heap.size) := Lib.hid (by rw [World.size_setCell]; exact HLa.out)
  clear hz hc HXa HBa HRa HQa HLa HNE 
  generalize (w3.setCell ⟨p, 2, none⟩ (.string v2)) = y3 at HX3 HB3 HR3 HQ3 HL3'  ⊢
  have HL3 := HL3'
  clear HL3'
  refine (N3.out y3 HR3.out).mono ?_
  rintro e w4 ⟨hb, ⟨hk3, rfl, hr⟩ | ⟨hk3, rfl⟩⟩
  rotate_left
  · have HF : Hid (ok = false) := Lib.hid (by rw [HK.out, hk0, hk1, hk2, hk3]; simp)
    have HB' := Lib.hid (HB3.out.trans hb)
    go_wp2
    exact ⟨rfl, HB'.out, .inr ⟨HF.out, rfl⟩⟩
  have HNE : Hid (p ≠ R) := Lib.hid (by have := HPP.out; have := HRp.out; omega)
  have HXa := Lib.hid ((hb.block p HL3.out HNE.out).trans HX3.out); have HBa := Lib.hid (HB3.out.trans hb); have HRa := Lib.hid hr; have HLa : Hid (p < w4.heap.size) := Lib.hid (Nat.lt_of_lt_of_le HL3.out hb.size)
  have HQa := Lib.hid ((hb.block w.heap.size (by have := HL3.out; have := HPP.out; omega) (by have := HRp.out; omega)).trans HQ3.out)
  clear hb hr HX3 HB3 HR3 HQ3 HL3 N3 
  have hz : w4.frozen? ⟨p, 3, none⟩ = false := frozen_of_row _ _ _ _ _ HXa.out
  have hc : w4.cell? ⟨p, 3, none⟩ = some (.int .i64 0) := by rw [cell_of_row _ _ _ _ _ _ HXa.out]; rfl
  go_wp2_with fail
  have HX4 : Hid ((w4.setCell ⟨p, 3, none⟩ (.int .i64 v3)).heap[p]? = some (.cells #[.int .i64 v0, .int .i64 v1, .string v2, .int .i64 v3, .int .i64 0, .int .i64 0, .int .i64 0, .int .i64 0, .slice none 0 0, .slice none 0 0, .string ⟨#[]⟩, .int .i64 0, .string ⟨#[]⟩] 27 (0, 0))) := Lib.hid (heap_setCell_same _ _ _ _ _ _ HXa.out)
  have HB4 := Lib.hid (HBa.out.grow (but_new (p := p) (a := w) (by have := HPP.out; omega) (But.set w4 3 (.int .i64 v3)) HBa.out.size)); have HR4 := Lib.hid (HRa.out.set (p := p) (by have := HPP.out; have := HRp.out; have := HLR.out; omega) HNE.out 3 (.int .i64 v3))
  have HQ4 : Hid ((w4.setCell ⟨p, 3, none⟩ (.int .i64 v3)).heap[w.heap.size]? = _) := Lib.hid ((Below.heap_setCell _ _ _ _ (by have := HPP.out; show w.heap.size ≠ p; omega)).trans HQa.out)
  have HL4' : Hid (p < (w4.setCell ⟨p, 3, none⟩ (.int .i64 v3)).heap.size) := Lib.hid (by rw [World.size_setCell]; exact HLa.out)
  clear hz hc HXa HBa HRa HQa HLa HNE 
  generalize (w4.setCell ⟨p, 3, none⟩ (.int .i64 v3)) = y4 at HX4 HB4 HR4 HQ4 HL4'  ⊢
  have HL4 := HL4'
  clear HL4'
  refine (N4.out y4 HR4.out).mono ?_
  rintro e w5 ⟨hb, ⟨hk4, rfl, hr⟩ | ⟨hk4, rfl⟩⟩
  rotate_left
  · have HF : Hid (ok = false) := Lib.hid (by rw [HK.out, hk0, hk1, hk2, hk3, hk4]; simp)
    have HB' := Lib.hid (HB4.out.trans hb)
    go_wp2
    exact ⟨rfl, HB'.out, .inr ⟨HF.out, rfl⟩⟩
  have HNE : Hid (p ≠ R) := Lib.hid (by have := HPP.out; have := HRp.out; omega)
  have HXa := Lib.hid ((hb.block p HL4.out HNE.out).trans HX4.out); have HBa := Lib.hid (HB4.out.trans hb); have HRa := Lib.hid hr; have HLa : Hid (p < w5.heap.size) := Lib.hid (Nat.lt_of_lt_of_le HL4.out hb.size)
  have HQa := Lib.hid ((hb.block w.heap.size (by have := HL4.out; have := HPP.out; omega) (by have := HRp.out; omega)).trans HQ4.out)
  clear hb hr HX4 HB4 HR4 HQ4 HL4 N4 
  have hz : w5.frozen? ⟨p, 4, none⟩ = false := frozen_of_row _ _ _ _ _ HXa.out
  have hc : w5.cell? ⟨p, 4, none⟩ = some (.int .i64 0) := by rw [cell_of_row _ _ _ _ _ _ HXa.out]; rfl
  go_wp2_with fail
  have HX5 : Hid ((w5.setCell ⟨p, 4, none⟩ (.int .i64 v4)).heap[p]? = some (.cells #[.int .i64 v0, .int .i64 v1, .string v2, .int .i64 v3, .int .i64 v4, .int .i64 0, .int .i64 0, .int .i64 0, .slice none 0 0, .slice none 0 0, .string ⟨#[]⟩, .int .i64 0, .string ⟨#[]⟩] 27 (0, 0))) := Lib.hid (heap_setCell_same _ _ _ _ _ _ HXa.out)
  have HB5 := Lib.hid (HBa.out.grow (but_new (p := p) (a := w) (by have := HPP.out; omega) (But.set w5 4 (.int .i64 v4)) HBa.out.size)); have HR5 := Lib.hid (HRa.out.set (p := p) (by have := HPP.out; have := HRp.out; have := HLR.out; omega) HNE.out 4 (.int .i64 v4))
  have HQ5 : Hid ((w5.setCell ⟨p, 4, none⟩ (.int .i64 v4)).heap[w.heap.size]? = _) := Lib.hid ((Below.heap_setCell _ _ _ _ (by have := HPP.out; show w.heap.size ≠ p; omega)).trans HQa.out)
  have HL5' : Hid (p < (w5.setCell ⟨p, 4, none⟩ (.int .i64 v4)).heap.size) := Lib.hid (by rw [World.size_setCell]; exact HLa.out)
  clear hz hc HXa HBa HRa HQa HLa HNE 
  generalize (w5.setCell ⟨p, 4, none⟩ (.int .i64 v4)) = y5 at HX5 HB5 HR5 HQ5 HL5'  ⊢
  have HL5 := HL5'
  clear HL5'
  refine (N5.out y5 HR5.out).mono ?_
  rintro e w6 ⟨hb, ⟨hk5, rfl, hr⟩ | ⟨hk5, rfl⟩⟩
  rotate_left
  · have HF : Hid (ok = false) := Lib.hid (by rw [HK.out, hk0, hk1, hk2, hk3, hk4, hk5]; simp)
    have HB' := Lib.hid (HB5.out.trans hb)
    go_wp2
    exact ⟨rfl, HB'.out, .inr ⟨HF.out, rfl⟩⟩
  have HNE : Hid (p ≠ R) := Lib.hid (by have := HPP.out; have := HRp.out; omega)
  have HXa := Lib.hid ((hb.block p HL5.out HNE.out).trans HX5.out); have HBa := Lib.hid (HB5.out.trans hb); have HRa := Lib.hid hr; have HLa : Hid (p < w6.heap.size) := Lib.hid (Nat.lt_of_lt_of_le HL5.out hb.size)
  have HQa := Lib.hid ((hb.block w.heap.size (by have := HL5.out; have := HPP.out; omega) (by have := HRp.out; omega)).trans HQ5.out)
  clear hb hr HX5 HB5 HR5 HQ5 HL5 N5 
  have hz : w6.frozen? ⟨p, 5, none⟩ = false := frozen_of_row _ _ _ _ _ HXa.out
  have hc : w6.cell? ⟨p, 5, none⟩ = some (.int .i64 0) := by rw [cell_of_row _ _ _ _ _ _ HXa.out]; rfl
  go_wp2_with fail
  have HX6 : Hid ((w6.setCell ⟨p, 5, none⟩ (.int .i64 v5)).heap[p]? = some (.cells #[.int .i64 v0, .int .i64 v1, .string v2, .int .i64 v3, .int .i64 v4, .int .i64 v5, .int .i64 0, .int .i64 0, .slice none 0 0, .slice none 0 0, .string ⟨#[]⟩, .int .i64 0, .string ⟨#[]⟩] 27 (0, 0))) := Lib.hid (heap_setCell_same _ _ _ _ _ _ HXa.out)
  have HB6 := Lib.hid (HBa.out.grow (but_new (p := p) (a := w) (by have := HPP.out; omega) (But.set w6 5 (.int .i64 v5)) HBa.out.size)); have HR6 := Lib.hid (HRa.out.set (p := p) (by have := HPP.out; have := HRp.out; have := HLR.out; omega) HNE.out 5 (.int .i64 v5))
  have HQ6 : Hid ((w6.setCell ⟨p, 5, none⟩ (.int .i64 v5)).heap[w.heap.size]? = _) := Lib.hid ((Below.heap_setCell _ _ _ _ (by have := HPP.out; show w.heap.size ≠ p; omega)).trans HQa.out)
  have HL6' : Hid (p < (w6.setCell ⟨p, 5, none⟩ (.int .i64 v5)).heap.size) := Lib.hid (by rw [World.size_setCell]; exact HLa.out)
  clear hz hc HXa HBa HRa HQa HLa HNE 
  generalize (w6.setCell ⟨p, 5, none⟩ (.int .i64 v5)) = y6 at HX6 HB6 HR6 HQ6 HL6'  ⊢
  have HL6 := HL6'
  clear HL6'
  refine (N6.out y6 HR6.out).mono ?_
  rintro e w7 ⟨hb, ⟨hk6, rfl, hr⟩ | ⟨hk6, rfl⟩⟩
  rotate_left
  · have HF : Hid (ok = false) := Lib.hid (by rw [HK.out, hk0, hk1, hk2, hk3, hk4, hk5, hk6]; simp)
    have HB' := Lib.hid (HB6.out.trans hb)
    go_wp2
    exact ⟨rfl, HB'.out, .inr ⟨HF.out, rfl⟩⟩
  have HNE : Hid (p ≠ R) := Lib.hid (by have := HPP.out; have := HRp.out; omega)
  have HXa := Lib.hid ((hb.block p HL6.out HNE.out).trans HX6.out); have HBa := Lib.hid (HB6.out.trans hb); have HRa := Lib.hid hr; have HLa : Hid (p < w7.heap.size) := Lib.hid (Nat.lt_of_lt_of_le HL6.out hb.size)
  have HQa := Lib.hid ((hb.block w.heap.size (by have := HL6.out; have := HPP.out; omega) (by have := HRp.out; omega)).trans HQ6.out)
  clear hb hr HX6 HB6 HR6 HQ6 HL6 N6 
  have hz : w7.frozen? ⟨p, 6, none⟩ = false := frozen_of_row _ _ _ _ _ HXa.out
  have hc : w7.cell? ⟨p, 6, none⟩ = some (.int .i64 0) := by rw [cell_of_row _ _ _ _ _ _ HXa.out]; rfl
  go_wp2_with fail
  have HX7 : Hid ((w7.setCell ⟨p, 6, none⟩ (.int .i64 v6)).heap[p]? = some (.cells #[.int .i64 v0, .int .i64 v1, .string v2, .int .i64 v3, .int .i64 v4, .int .i64 v5, .int .i64 v6, .int .i64 0, .slice none 0 0, .slice none 0 0, .string ⟨#[]⟩, .int .i64 0, .string ⟨#[]⟩] 27 (0, 0))) := Lib.hid (heap_setCell_same _ _ _ _ _ _ HXa.out)
  have HB7 := Lib.hid (HBa.out.grow (but_new (p := p) (a := w) (by have := HPP.out; omega) (But.set w7 6 (.int .i64 v6)) HBa.out.size)); have HR7 := Lib.hid (HRa.out.set (p := p) (by have := HPP.out; have := HRp.out; have := HLR.out; omega) HNE.out 6 (.int .i64 v6))
  have HQ7 : Hid ((w7.setCell ⟨p, 6, none⟩ (.int .i64 v6)).heap[w.heap.size]? = _) := Lib.hid ((Below.heap_setCell _ _ _ _ (by have := HPP.out; show w.heap.size ≠ p; omega)).trans HQa.out)
  have HL7' : Hid (p < (w7.setCell ⟨p, 6, none⟩ (.int .i64 v6)).heap.size) := Lib.hid (by rw [World.size_setCell]; exact HLa.out)
  clear hz hc HXa HBa HRa HQa HLa HNE 
  generalize (w7.setCell ⟨p, 6, none⟩ (.int .i64 v6)) = y7 at HX7 HB7 HR7 HQ7 HL7'  ⊢
  have HL7 := HL7'
  clear HL7'
  refine (N7.out y7 HR7.out).mono ?_
  rintro e w8 ⟨hb, ⟨hk7, rfl, hr⟩ | ⟨hk7, rfl⟩⟩
  rotate_left
  · have HF : Hid (ok = false) := Lib.hid (by rw [HK.out, hk0, hk1, hk2, hk3, hk4, hk5, hk6, hk7]; simp)
    have HB' := Lib.hid (HB7.out.trans hb)
    go_wp2
    exact ⟨rfl, HB'.out, .inr ⟨HF.out, rfl⟩⟩
  have HNE : Hid (p ≠ R) := Lib.hid (by have := HPP.out; have := HRp.out; omega)
  have HXa := Lib.hid ((hb.block p HL7.out HNE.out).trans HX7.out); have HBa := Lib.hid (HB7.out.trans hb); have HRa := Lib.hid hr; have HLa : Hid (p < w8.heap.size) := Lib.hid (Nat.lt_of_lt_of_le HL7.out hb.size)
  have HQa := Lib.hid ((hb.block w.heap.size (by have := HL7.out; have := HPP.out; omega) (by have := HRp.out; omega)).trans HQ7.out)
  clear hb hr HX7 HB7 HR7 HQ7 HL7 N7 
  have hz : w8.frozen? ⟨p, 7, none⟩ = false := frozen_of_row _ _ _ _ _ HXa.out
  have hc : w8.cell? ⟨p, 7, none⟩ = some (.int .i64 0) := by rw [cell_of_row _ _ _ _ _ _ HXa.out]; rfl
  go_wp2_with fail
  have HX8 : Hid ((w8.setCell ⟨p, 7, none⟩ (.int .i64 v7)).heap[p]? = some (.cells #[.int .i64 v0, .int .i64 v1, .string v2, .int .i64 v3, .int .i64 v4, .int .i64 v5, .int .i64 v6, .int .i64 v7, .slice none 0 0, .slice none 0 0, .string ⟨#[]⟩, .int .i64 0, .string ⟨#[]⟩] 27 (0, 0))) := Lib.hid (heap_setCell_same _ _ _ _ _ _ HXa.out)
  have HB8 := Lib.hid (HBa.out.grow (but_new (p := p) (a := w) (by have := HPP.out; omega) (But.set w8 7 (.int .i64 v7)) HBa.out.size)); have HR8 := Lib.hid (HRa.out.set (p := p) (by have := HPP.out; have := HRp.out; have := HLR.out; omega) HNE.out 7 (.int .i64 v7))
  have HQ8 : Hid ((w8.setCell ⟨p, 7, none⟩ (.int .i64 v7)).heap[w.heap.size]? = _) := Lib.hid ((Below.heap_setCell _ _ _ _ (by have := HPP.out; show w.heap.size ≠ p; omega)).trans HQa.out)
  have HL8' : Hid (p < (w8.setCell ⟨p, 7, none⟩ (.int .i64 v7)).heap.size) := Lib.hid (by rw [World.size_setCell]; exact HLa.out)
  clear hz hc HXa HBa HRa HQa HLa HNE 
  generalize (w8.setCell ⟨p, 7, none⟩ (.int .i64 v7)) = y8 at HX8 HB8 HR8 HQ8 HL8'  ⊢
  have HL8 := HL8'
  clear HL8'
  refine (N8.out y8 HR8.out).mono ?_
  rintro e w9 ⟨hb, ⟨hk8, ⟨Al, nl, cl, rfl, hil, hnl⟩, hr⟩ | ⟨hk8, rfl⟩⟩
  rotate_left
  · have HF : Hid (ok = false) := Lib.hid (by rw [HK.out, hk0, hk1, hk2, hk3, hk4, hk5, hk6, hk7, hk8]; simp)
    have HB' := Lib.hid (HB8.out.trans hb)
    go_wp2
    exact ⟨rfl, HB'.out, .inr ⟨HF.out, rfl⟩⟩
  have HNE : Hid (p ≠ R) := Lib.hid (by have := HPP.out; have := HRp.out; omega)
  have HXa := Lib.hid ((hb.block p HL8.out HNE.out).trans HX8.out); have HBa := Lib.hid (HB8.out.trans hb); have HRa := Lib.hid hr; have HLa : Hid (p < w9.heap.size) := Lib.hid (Nat.lt_of_lt_of_le HL8.out hb.size)
  have HQa := Lib.hid ((hb.block w.heap.size (by have := HL8.out; have := HPP.out; omega) (by have := HRp.out; omega)).trans HQ8.out)
  have HNl : Hid (∀ ad, Al = some ad → p < ad.block) := Lib.hid fun ad hA => Nat.lt_of_lt_of_le HL8.out (hnl ad hA).1
  have HIla := Lib.hid hil
  have HMl : Hid (∀ ad, Al = some ad → ad.block < w9.heap.size) := Lib.hid fun ad hA => (hnl ad hA).2
  clear hil hnl
  clear hb hr HX8 HB8 HR8 HQ8 HL8 N8 
  have hz : w9.frozen? ⟨p, 8, none⟩ = false := frozen_of_row _ _ _ _ _ HXa.out
  have hc : w9.cell? ⟨p, 8, none⟩ = some (.slice none 0 0) := by rw [cell_of_row _ _ _ _ _ _ HXa.out]; rfl
  go_wp2_with fail
  have HX9 : Hid ((w9.setCell ⟨p, 8, none⟩ (.slice Al nl cl)).heap[p]? = some (.cells #[.int .i64 v0, .int .i64 v1, .string v2, .int .i64 v3, .int .i64 v4, .int .i64 v5, .int .i64 v6, .int .i64 v7, .slice Al nl cl, .slice none 0 0, .string ⟨#[]⟩, .int .i64 0, .string ⟨#[]⟩] 27 (0, 0))) := Lib.hid (heap_setCell_same _ _ _ _ _ _ HXa.out)
  have HB9 := Lib.hid (HBa.out.grow (but_new (p := p) (a := w) (by have := HPP.out; omega) (But.set w9 8 (.slice Al nl cl)) HBa.out.size)); have HR9 := Lib.hid (HRa.out.set (p := p) (by have := HPP.out; have := HRp.out; have := HLR.out; omega) HNE.out 8 (.slice Al nl cl))
  have HQ9 : Hid ((w9.setCell ⟨p, 8, none⟩ (.slice Al nl cl)).heap[w.heap.size]? = _) := Lib.hid ((Below.heap_setCell _ _ _ _ (by have := HPP.out; show w.heap.size ≠ p; omega)).trans HQa.out)
  have HL9' : Hid (p < (w9.setCell ⟨p, 8, none⟩ (.slice Al nl cl)).heap.size) := Lib.hid (by rw [World.size_setCell]; exact HLa.out)
  have HIl9 := Lib.hid (set_up HIla.out HNl.out 8 (.slice Al nl cl))
  have HMlb : Hid (∀ ad, Al = some ad → ad.block < (w9.setCell ⟨p, 8, none⟩ (.slice Al nl cl)).heap.size) := Lib.hid fun ad hA => by rw [World.size_setCell]; exact HMl.out ad hA
  clear HMl
  clear hz hc HXa HBa HRa HQa HLa HNE HIla
  generalize (w9.setCell ⟨p, 8, none⟩ (.slice Al nl cl)) = y9 at HX9 HB9 HR9 HQ9 HL9' HIl9 HMlb ⊢
  have HL9 := HL9'
  clear HL9'
  have HMl := HMlb
  clear HMlb
  refine (N9.out y9 HR9.out).mono ?_
  rintro e w10 ⟨hb, ⟨hk9, ⟨Bp, mp, kp, rfl, hip, hnp⟩, hr⟩ | ⟨hk9, rfl⟩⟩
  rotate_left
  · have HF : Hid (ok = false) := Lib.hid (by rw [HK.out, hk0, hk1, hk2, hk3, hk4, hk5, hk6, hk7, hk8, hk9]; simp)
    have HB' := Lib.hid (HB9.out.trans hb)
    go_wp2
    exact ⟨rfl, HB'.out, .inr ⟨HF.out, rfl⟩⟩
  have HNE : Hid (p ≠ R) := Lib.hid (by have := HPP.out; have := HRp.out; omega)
  have HXa := Lib.hid ((hb.block p HL9.out HNE.out).trans HX9.out); have HBa := Lib.hid (HB9.out.trans hb); have HRa := Lib.hid hr; have HLa : Hid (p < w10.heap.size) := Lib.hid (Nat.lt_of_lt_of_le HL9.out hb.size)
  have HQa := Lib.hid ((hb.block w.heap.size (by have := HL9.out; have := HPP.out; omega) (by have := HRp.out; omega)).trans HQ9.out)
  have HIla := Lib.hid (but_up hb HIl9.out HNl.out (by have := HPP.out; have := HRp.out; omega))
  have HNp : Hid (∀ ad, Bp = some ad → p < ad.block) := Lib.hid fun ad hA => Nat.lt_of_lt_of_le HL9.out (hnp ad hA).1
  have HIpa := Lib.hid hip
  have HMp : Hid (∀ ad, Bp = some ad → ad.block < w10.heap.size) := Lib.hid fun ad hA => (hnp ad hA).2
  clear hip hnp
  have HMlb : Hid (∀ ad, Al = some ad → ad.block < w10.heap.size) := Lib.hid fun ad hA => Nat.lt_of_lt_of_le (HMl.out ad hA) hb.size
  clear HMl
  have HMl := HMlb
  clear HMlb
  clear hb hr HX9 HB9 HR9 HQ9 HL9 N9 HIl9
  have hz : w10.frozen? ⟨p, 9, none⟩ = false := frozen_of_row _ _ _ _ _ HXa.out
  have hc : w10.cell? ⟨p, 9, none⟩ = some (.slice none 0 0) := by rw [cell_of_row _ _ _ _ _ _ HXa.out]; rfl
  go_wp2_with fail
  have HX10 : Hid ((w10.setCell ⟨p, 9, none⟩ (.slice Bp mp kp)).heap[p]? = some (.cells #[.int .i64 v0, .int .i64 v1, .string v2, .int .i64 v3, .int .i64 v4, .int .i64 v5, .int .i64 v6, .int .i64 v7, .slice Al nl cl, .slice Bp mp kp, .string ⟨#[]⟩, .int .i64 0, .string ⟨#[]⟩] 27 (0, 0))) := Lib.hid (heap_setCell_same _ _ _ _ _ _ HXa.out)
  have HB10 := Lib.hid (HBa.out.grow (but_new (p := p) (a := w) (by have := HPP.out; omega) (But.set w10 9 (.slice Bp mp kp)) HBa.out.size)); have HR10 := Lib.hid (HRa.out.set (p := p) (by have := HPP.out; have := HRp.out; have := HLR.out; omega) HNE.out 9 (.slice Bp mp kp))
  have HQ10 : Hid ((w10.setCell ⟨p, 9, none⟩ (.slice Bp mp kp)).heap[w.heap.size]? = _) := Lib.hid ((Below.heap_setCell _ _ _ _ (by have := HPP.out; show w.heap.size ≠ p; omega)).trans HQa.out)
  have HL10' : Hid (p < (w10.setCell ⟨p, 9, none⟩ (.slice Bp mp kp)).heap.size) := Lib.hid (by rw [World.size_setCell]; exact HLa.out)
  have HIl10 := Lib.hid (set_up HIla.out HNl.out 9 (.slice Bp mp kp))
  have HMlb : Hid (∀ ad, Al = some ad → ad.block < (w10.setCell ⟨p, 9, none⟩ (.slice Bp mp kp)).heap.size) := Lib.hid fun ad hA => by rw [World.size_setCell]; exact HMl.out ad hA
  clear HMl
  have HIp10 := Lib.hid (set_up HIpa.out HNp.out 9 (.slice Bp mp kp))
  have HMpb : Hid (∀ ad, Bp = some ad → ad.block < (w10.setCell ⟨p, 9, none⟩ (.slice Bp mp kp)).heap.size) := Lib.hid fun ad hA => by rw [World.size_setCell]; exact HMp.out ad hA
  clear HMp
  clear hz hc HXa HBa HRa HQa HLa HNE HIla HIpa
  generalize (w10.setCell ⟨p, 9, none⟩ (.slice Bp mp kp)) = y10 at HX10 HB10 HR10 HQ10 HL10' HIl10 HMlb HIp10 HMpb ⊢
  have HL10 := HL10'
  clear HL10'
  have HMl := HMlb
  clear HMlb
  have HMp := HMpb
  clear HMpb
  refine (N10.out y10 HR10.out).mono ?_
  rintro e w11 ⟨hb, ⟨hk10, rfl, hr⟩ | ⟨hk10, rfl⟩⟩
  rotate_left
  · have HF : Hid (ok = false) := Lib.hid (by rw [HK.out, hk0, hk1, hk2, hk3, hk4, hk5, hk6, hk7, hk8, hk9, hk10]; simp)
    have HB' := Lib.hid (HB10.out.trans hb)
    go_wp2
    exact ⟨rfl, HB'.out, .inr ⟨HF.out, rfl⟩⟩
  have HNE : Hid (p ≠ R) := Lib.hid (by have := HPP.out; have := HRp.out; omega)
  have HXa := Lib.hid ((hb.block p HL10.out HNE.out).trans HX10.out); have HBa := Lib.hid (HB10.out.trans hb); have HRa := Lib.hid hr; have HLa : Hid (p < w11.heap.size) := Lib.hid (Nat.lt_of_lt_of_le HL10.out hb.size)
  have HQa := Lib.hid ((hb.block w.heap.size (by have := HL10.out; have := HPP.out; omega) (by have := HRp.out; omega)).trans HQ10.out)
  have HIla := Lib.hid (but_up hb HIl10.out HNl.out (by have := HPP.out; have := HRp.out; omega))
  have HIpa := Lib.hid (but_up hb HIp10.out HNp.out (by have := HPP.out; have := HRp.out; omega))
  have HMlb : Hid (∀ ad, Al = some ad → ad.block < w11.heap.size) := Lib.hid fun ad hA => Nat.lt_of_lt_of_le (HMl.out ad hA) hb.size
  clear HMl
  have HMl := HMlb
  clear HMlb
  have HMpb : Hid (∀ ad, Bp = some ad → ad.block < w11.heap.size) := Lib.hid fun ad hA => Nat.lt_of_lt_of_le (HMp.out ad hA) hb.size
  clear HMp
  have HMp := HMpb
  clear HMpb
  clear hb hr HX10 HB10 HR10 HQ10 HL10 N10 HIl10 HIp10
  have hz : w11.frozen? ⟨p, 10, none⟩ = false := frozen_of_row _ _ _ _ _ HXa.out
  have hc : w11.cell? ⟨p, 10, none⟩ = some (.string ⟨#[]⟩) := by rw [cell_of_row _ _ _ _ _ _ HXa.out]; rfl
  go_wp2_with fail
  have HX11 : Hid ((w11.setCell ⟨p, 10, none⟩ (.string v10)).heap[p]? = some (.cells #[.int .i64 v0, .int .i64 v1, .string v2, .int .i64 v3, .int .i64 v4, .int .i64 v5, .int .i64 v6, .int .i64 v7, .slice Al nl cl, .slice Bp mp kp, .string v10, .int .i64 0, .string ⟨#[]⟩] 27 (0, 0))) := Lib.hid (heap_setCell_same _ _ _ _ _ _ HXa.out)
  have HB11 := Lib.hid (HBa.out.grow (but_new (p := p) (a := w) (by have := HPP.out; omega) (But.set w11 10 (.string v10)) HBa.out.size)); have HR11 := Lib.hid (HRa.out.set (p := p) (by have := HPP.out; have := HRp.out; have := HLR.out; omega) HNE.out 10 (.string v10))
  have HQ11 : Hid ((w11.setCell ⟨p, 10, none⟩ (.string v10)).heap[w.heap.size]? = _) := Lib.hid ((Below.heap_setCell _ _ _ _ (by have := HPP.out; show w.heap.size ≠ p; omega)).trans HQa.out)
  have HL11' : Hid (p < (w11.setCell ⟨p, 10, none⟩ (.string v10)).heap.size) := Lib.hid (by rw [World.size_setCell]; exact HLa.out)
  have HIl11 := Lib.hid (set_up HIla.out HNl.out 10 (.string v10))
  have HMlb : Hid (∀ ad, Al = some ad → ad.block < (w11.setCell ⟨p, 10, none⟩ (.string v10)).heap.size) := Lib.hid fun ad hA => by rw [World.size_setCell]; exact HMl.out ad hA
  clear HMl
  have HIp11 := Lib.hid (set_up HIpa.out HNp.out 10 (.string v10))
  have HMpb : Hid (∀ ad, Bp = some ad → ad.block < (w11.setCell ⟨p, 10, none⟩ (.string v10)).heap.size) := Lib.hid fun ad hA => by rw [World.size_setCell]; exact HMp.out ad hA
  clear HMp
  clear hz hc HXa HBa HRa HQa HLa HNE HIla HIpa
  generalize (w11.setCell ⟨p, 10, none⟩ (.string v10)) = y11 at HX11 HB11 HR11 HQ11 HL11' HIl11 HMlb HIp11 HMpb ⊢
  have HL11 := HL11'
  clear HL11'
  have HMl := HMlb
  clear HMlb
  have HMp := HMpb
  clear HMpb
  refine (N11.out y11 HR11.out).mono ?_
  rintro e w12 ⟨hb, ⟨hk11, rfl, hr⟩ | ⟨hk11, rfl⟩⟩
  rotate_left
  · have HF : Hid (ok = false) := Lib.hid (by rw [HK.out, hk0, hk1, hk2, hk3, hk4, hk5, hk6, hk7, hk8, hk9, hk10, hk11]; simp)
    have HB' := Lib.hid (HB11.out.trans hb)
    go_wp2
    exact ⟨rfl, HB'.out, .inr ⟨HF.out, rfl⟩⟩
  have HNE : Hid (p ≠ R) := Lib.hid (by have := HPP.out; have := HRp.out; omega)
  have HXa := Lib.hid ((hb.block p HL11.out HNE.out).trans HX11.out); have HBa := Lib.hid (HB11.out.trans hb); have HRa := Lib.hid hr; have HLa : Hid (p < w12.heap.size) := Lib.hid (Nat.lt_of_lt_of_le HL11.out hb.size)
  have HQa := Lib.hid ((hb.block w.heap.size (by have := HL11.out; have := HPP.out; omega) (by have := HRp.out; omega)).trans HQ11.out)
  have HIla := Lib.hid (but_up hb HIl11.out HNl.out (by have := HPP.out; have := HRp.out; omega))
  have HIpa := Lib.hid (but_up hb HIp11.out HNp.out (by have := HPP.out; have := HRp.out; omega))
  have HMlb : Hid (∀ ad, Al = some ad → ad.block < w12.heap.size) := Lib.hid fun ad hA => Nat.lt_of_lt_of_le (HMl.out ad hA) hb.size
  clear HMl
  have HMl := HMlb
  clear HMlb
  have HMpb : Hid (∀ ad, Bp = some ad → ad.block < w12.heap.size) := Lib.hid fun ad hA => Nat.lt_of_lt_of_le (HMp.out ad hA) hb.size
  clear HMp
  have HMp := HMpb
  clear HMpb
  clear hb hr HX11 HB11 HR11 HQ11 HL11 N11 HIl11 HIp11
  have hz : w12.frozen? ⟨p, 11, none⟩ = false := frozen_of_row _ _ _ _ _ HXa.out
  have hc : w12.cell? ⟨p, 11, none⟩ = some (.int .i64 0) := by rw [cell_of_row _ _ _ _ _ _ HXa.out]; rfl
  go_wp2_with fail
  have HX12 : Hid ((w12.setCell ⟨p, 11, none⟩ (.int .i64 v11)).heap[p]? = some (.cells #[.int .i64 v0, .int .i64 v1, .string v2, .int .i64 v3, .int .i64 v4, .int .i64 v5, .int .i64 v6, .int .i64 v7, .slice Al nl cl, .slice Bp mp kp, .string v10, .int .i64 v11, .string ⟨#[]⟩] 27 (0, 0))) := Lib.hid (heap_setCell_same _ _ _ _ _ _ HXa.out)
  have HB12 := Lib.hid (HBa.out.grow (but_new (p := p) (a := w) (by have := HPP.out; omega) (But.set w12 11 (.int .i64 v11)) HBa.out.size)); have HR12 := Lib.hid (HRa.out.set (p := p) (by have := HPP.out; have := HRp.out; have := HLR.out; omega) HNE.out 11 (.int .i64 v11))
  have HQ12 : Hid ((w12.setCell ⟨p, 11, none⟩ (.int .i64 v11)).heap[w.heap.size]? = _) := Lib.hid ((Below.heap_setCell _ _ _ _ (by have := HPP.out; show w.heap.size ≠ p; omega)).trans HQa.out)
  have HL12' : Hid (p < (w12.setCell ⟨p, 11, none⟩ (.int .i64 v11)).heap.size) := Lib.hid (by rw [World.size_setCell]; exact HLa.out)
  have HIl12 := Lib.hid (set_up HIla.out HNl.out 11 (.int .i64 v11))
  have HMlb : Hid (∀ ad, Al = some ad → ad.block < (w12.setCell ⟨p, 11, none⟩ (.int .i64 v11)).heap.size) := Lib.hid fun ad hA => by rw [World.size_setCell]; exact HMl.out ad hA
  clear HMl
  have HIp12 := Lib.hid (set_up HIpa.out HNp.out 11 (.int .i64 v11))
  have HMpb : Hid (∀ ad, Bp = some ad → ad.block < (w12.setCell ⟨p, 11, none⟩ (.int .i64 v11)).heap.size) := Lib.hid fun ad hA => by rw [World.size_setCell]; exact HMp.out ad hA
  clear HMp
  clear hz hc HXa HBa HRa HQa HLa HNE HIla HIpa
  generalize (w12.setCell ⟨p, 11, none⟩ (.int .i64 v11)) = y12 at HX12 HB12 HR12 HQ12 HL12' HIl12 HMlb HIp12 HMpb ⊢
  have HL12 := HL12'
  clear HL12'
  have HMl := HMlb
  clear HMlb
  have HMp := HMpb
  clear HMpb
  refine (N12.out y12 HR12.out).mono ?_
  rintro e w13 ⟨hb, ⟨hk12, rfl, hr⟩ | ⟨hk12, rfl⟩⟩
  rotate_left
  · have HF : Hid (ok = false) := Lib.hid (by rw [HK.out, hk0, hk1, hk2, hk3, hk4, hk5, hk6, hk7, hk8, hk9, hk10, hk11, hk12]; simp)
    have HB' := Lib.hid (HB12.out.trans hb)
    go_wp2
    exact ⟨rfl, HB'.out, .inr ⟨HF.out, rfl⟩⟩
  have HNE : Hid (p ≠ R) := Lib.hid (by have := HPP.out; have := HRp.out; omega)
  have HXa := Lib.hid ((hb.block p HL12.out HNE.out).trans HX12.out); have HBa := Lib.hid (HB12.out.trans hb); have HRa := Lib.hid hr; have HLa : Hid (p < w13.heap.size) := Lib.hid (Nat.lt_of_lt_of_le HL12.out hb.size)
  have HQa := Lib.hid ((hb.block w.heap.size (by have := HL12.out; have := HPP.out; omega) (by have := HRp.out; omega)).trans HQ12.out)
  have HIla := Lib.hid (but_up hb HIl12.out HNl.out (by have := HPP.out; have := HRp.out; omega))
  have HIpa := Lib.hid (but_up hb HIp12.out HNp.out (by have := HPP.out; have := HRp.out; omega))
  have HMlb : Hid (∀ ad, Al = some ad → ad.block < w13.heap.size) := Lib.hid fun ad hA => Nat.lt_of_lt_of_le (HMl.out ad hA) hb.size
  clear HMl
  have HMl := HMlb
  clear HMlb
  have HMpb : Hid (∀ ad, Bp = some ad → ad.block < w13.heap.size) := Lib.hid fun ad hA => Nat.lt_of_lt_of_le (HMp.out ad hA) hb.size
  clear HMp
  have HMp := HMpb
  clear HMpb
  clear hb hr HX12 HB12 HR12 HQ12 HL12 N12 HIl12 HIp12
  obtain ⟨hc0, hc1, hc2, hc3, hc4, hc5, hc6, hc7, hc8, hc9, hc10, hc11, hc12⟩ := stm_cells (s := ⟨v0, v1, v2, v3, v4, v5, v6, v7, v8, v9, v10, v11, ⟨#[]⟩⟩) HXa.out
  have hz : w13.frozen? ⟨p, 12, none⟩ = false := frozen_of_row _ _ _ _ _ HXa.out
  have HQf : Hid ((w13.setCell ⟨p, 12, none⟩ (.string v12)).heap[w.heap.size]? = _) := Lib.hid ((Below.heap_setCell _ _ _ _ (by have := HPP.out; show w.heap.size ≠ p; omega)).trans HQa.out)
  go_wp2_with (refine wpList_store_row rfl 27 (.tmp 2) (.tmp 45) rfl w.heap.size #[.int .i64 v0, .int .i64 v1, .string v2, .int .i64 v3, .int .i64 v4, .int .i64 v5, .int .i64 v6, .int .i64 v7, .slice Al nl cl, .slice Bp mp kp, .string v10, .int .i64 v11, .string v12] rfl rfl 27 _ HQf.out (by kernel_rfl) rfl (by simp [Value.oneCell']) ?_)
  have hfin : ∀ k, k ≠ p → k ≠ w.heap.size → ((w13.setCell ⟨p, 12, none⟩ (.string v12)).setRow w.heap.size #[.int .i64 v0, .int .i64 v1, .string v2, .int .i64 v3, .int .i64 v4, .int .i64 v5, .int .i64 v6, .int .i64 v7, .slice Al nl cl, .slice Bp mp kp, .string v10, .int .i64 v11, .string v12]).heap[k]? = w13.heap[k]? := fun k hk hk2 => (setRow_other _ _ _ _ hk2).trans (Below.heap_setCell _ _ _ _ hk)
  have hpp := HPP.out
  have hrp := HRp.out
  refine bodyPost_ret (v := .agg #[.int .i64 v0, .int .i64 v1, .string v2, .int .i64 v3, .int .i64 v4, .int .i64 v5, .int .i64 v6, .int .i64 v7, .slice Al nl cl, .slice Bp mp kp, .string v10, .int .i64 v11, .string v12]) (results_cell_row rfl _ _ w.heap.size 27 #[.int .i64 v0, .int .i64 v1, .string v2, .int .i64 v3, .int .i64 v4, .int .i64 v5, .int .i64 v6, .int .i64 v7, .slice Al nl cl, .slice Bp mp kp, .string v10, .int .i64 v11, .string v12] (0, 0) _ rfl (setRow_heap _ _ _ _ _ _ HQf.out) Tryz.underlying27 rfl (by kernel_rfl)) rfl
    ⟨⟨HBa.out.os, HBa.out.tape, HBa.out.output, by rw [setRow_size, World.size_setCell]; exact HBa.out.size, fun k hk hne => (hfin k (by omega) (by omega)).trans (HBa.out.block k hk hne)⟩, .inl ⟨by rw [HK.out, hk0, hk1, hk2, hk3, hk4, hk5, hk6, hk7, hk8, hk9, hk10, hk11, hk12]; rfl, ⟨Al, nl, cl, Bp, mp, kp, by rw [HS.out]; rfl, ?_, ?_, ?_, ?_⟩, ?_⟩⟩
  · rw [HS.out]; exact Row.keep HIla.out fun ad hA _ _ => hfin _ (by have := HNl.out ad hA; omega) (by have := HNl.out ad hA; omega)
  · rw [HS.out]; exact Row.keep HIpa.out fun ad hA _ _ => hfin _ (by have := HNp.out ad hA; omega) (by have := HNp.out ad hA; omega)
  · exact fun ad hA => ⟨by have := HNl.out ad hA; omega, by rw [setRow_size, World.size_setCell]; exact HMl.out ad hA⟩
  · exact fun ad hA => ⟨by have := HNp.out ad hA; omega, by rw [setRow_size, World.size_setCell]; exact HMp.out ad hA⟩
  · rw [HRR.out]; exact HRa.out.keep (hfin _ (by omega) (by omega)) fun k hk => hfin _ (by have := HLR.out; omega) (by have := HLR.out; omega)
end Go.Proofs.YtkglgboncngpbaaGreatDoor
/- The deferred function of statement.read, which recovers. -/
namespace Go.Proofs.YtkglgboncngpbaaGreatDoor
open Go.RowKit
theorem assert_nil (w : World) : (Instr.typeAssert .nilIface 20 130 true).run Tryz.prog w = .ok (.tuple #[.agg #[], .bool false]) w := by kernel_rfl
theorem assert_yes (w : World) (v : Value) : (Instr.typeAssert (.iface 130 v) 20 130 true).run Tryz.prog w = .ok (.tuple #[v, .bool true]) w := by kernel_rfl
set_option maxRecDepth 20000 in
set_option maxHeartbeats 1000000 in
theorem catch_idle (p q : Addr) (w : World) :
    CallsD Tryz.prog 112 #[.pointer (some p), .pointer (some q)] .returning w fun e u' w' => e = .returned (.tuple #[]) ∧ u' = .returning ∧ Below w.heap.size w w' := by
  have hta := assert_nil
  refine callsD_of_wpS Tryz.func112 rfl fun c₀ cs hu => ?_
  apply wpS_seq
  apply wpS_region
  simp [wpOpsS, go_sem, recoverD, hu, Tryz.ntmps112, Exit.thenS, hta]
  apply wpS_seq
  apply wpS_region
  simp [wpOpsS, go_sem, Exit.thenS]
  refine wpS_cond (t := false) (by simp [Act.eval, Array.replicate]) ?_
  simp only [Bool.false_eq_true, if_false]
  refine wpS_of_wp (wp_skip ?_)
  cases c₀
  simp_all [bodyPostS, results, Tryz.results112]
  exact one_new _ _
/-- The statement that is none. -/
def zeroA : Array Value := #[.int .i64 0, .int .i64 0, .string ⟨#[]⟩, .int .i64 0, .int .i64 0, .int .i64 0, .int .i64 0, .int .i64 0, .slice none 0 0, .slice none 0 0, .string ⟨#[]⟩, .int .i64 0, .string ⟨#[]⟩]
set_option maxRecDepth 20000 in
set_option maxHeartbeats 1000000 in
theorem catch_panicking (p q : Nat) (cs0 : Array Value) (b : Bool) (w : World) (hp : w.heap[p]? = some (.cells cs0 27 (0, 0))) (hs : cs0.size = 13) (hq : w.heap[q]? = some (.cells #[.bool b] 4 (0, 0))) (hne : p ≠ q) (older : List PanicEntry) :
    CallsD Tryz.prog 112 #[.pointer (some ⟨p, 0, none⟩), .pointer (some ⟨q, 0, none⟩)] (.panicking (noSt :: older)) w fun e u' w' =>
      e = .returned (.tuple #[]) ∧ u' = .panicking ({ v := .iface 130 (.agg #[]), recovered := true } :: older) ∧ w' = ((w.alloc (.cells #[] 130)).setRow p zeroA).setCell ⟨q, 0, none⟩ (.bool false) := by
  have hta := assert_yes
  refine callsD_of_wpS Tryz.func112 rfl fun c₀ cs hu => ?_
  apply wpS_seq
  apply wpS_region
  simp [wpOpsS, go_sem, recoverD, hu, noSt, Tryz.ntmps112, Exit.thenS, hta]
  apply wpS_seq
  apply wpS_region
  simp [wpOpsS, go_sem, Exit.thenS]
  refine wpS_cond (t := true) (by simp [Act.eval, Array.replicate]) ?_
  simp only [if_true]
  refine wpS_of_wp ?_
  change Code.wp _ _ _ { tmps := #[.pointer (some ⟨p, 0, none⟩), .pointer (some ⟨q, 0, none⟩), .pointer (some ⟨w.heap.size, 0, none⟩), .bool true, .tuple #[.agg #[], .bool true], .iface 130 (.agg #[]), .tuple #[.agg #[], .bool true], .agg #[], .bool true, .bool true, undef], defers := [] } _
  have hbd : ∀ w, (Instr.build 27 #[]).run Tryz.prog w = .ok (.agg zeroA) w := fun w => by kernel_rfl
  have hp1 : (w.alloc (.cells #[] 130)).heap[p]? = some (.cells cs0 27 (0, 0)) := (Below.heap_alloc _ _ _ (Array.getElem?_eq_some_iff.1 hp).1).trans hp
  have hq1 : ((w.alloc (.cells #[] 130)).setRow p zeroA).heap[q]? = some (.cells #[.bool b] 4 (0, 0)) := (setRow_other _ _ _ _ (Ne.symm hne)).trans ((Below.heap_alloc _ _ _ (Array.getElem?_eq_some_iff.1 hq).1).trans hq)
  have hc : ((w.alloc (.cells #[] 130)).setRow p zeroA).cell? ⟨q, 0, none⟩ = some (.bool b) := by rw [cell_of_row _ _ _ _ _ _ hq1]; rfl
  have hz : ((w.alloc (.cells #[] 130)).setRow p zeroA).frozen? ⟨q, 0, none⟩ = false := frozen_of_row _ _ _ _ _ hq1
  go_wp2_with (refine wpList_store_row rfl 27 (.tmp 0) (.tmp 10) rfl p zeroA rfl rfl 27 _ hp1 (by kernel_rfl) hs (by simp [Value.oneCell', zeroA]) ?_)
  simp [bodyPostS, results, Tryz.results112]
end Go.Proofs.YtkglgboncngpbaaGreatDoor
