/- The walks of trustflowmade's dice: Light, Roll, Next, Of. -/
import Derived.Test.YtnjilfdmplbalaaGreatDoorMade
import Derived.Test.YtnjilfdmplbalaaGreatDoorRow
import Derived.BigQuiet
import Derived.Outline
namespace Go.Proofs.YtnjilfdmplbalaaGreatDoor
open Go.RowKit
/-- Of what was there nothing has turned but block D. -/
structure But (D : Nat) (w w' : World) : Prop where
  os : w'.os = w.os
  tape : w'.tape = w.tape
  output : w'.output = w.output
  size : w.heap.size ≤ w'.heap.size
  block : ∀ k, k < w.heap.size → k ≠ D → w'.heap[k]? = w.heap[k]?
theorem But.refl (D : Nat) (w : World) : But D w w := ⟨rfl, rfl, rfl, Nat.le_refl _, fun _ _ _ => rfl⟩
theorem But.trans {D : Nat} {a b c : World} (h : But D a b) (k : But D b c) : But D a c :=
  ⟨k.os.trans h.os, k.tape.trans h.tape, k.output.trans h.output, Nat.le_trans h.size k.size, fun i hi hne => (k.block i (Nat.lt_of_lt_of_le hi h.size) hne).trans (h.block i hi hne)⟩
theorem But.of {D : Nat} {w w' : World} (h : Below w.heap.size w w') : But D w w' := ⟨h.os, h.tape, h.output, h.size, fun k hk _ => h.block k hk⟩
/-- Where block D is of the call's own. -/
theorem But.below {D B : Nat} {w w' : World} (h : But D w w') (hD : B ≤ D) (hB : B ≤ w.heap.size) : Below B w w' := ⟨h.os, h.tape, h.output, h.size, fun k hk => h.block k (by omega) (by omega)⟩
theorem But.set {D : Nat} (w : World) (o : Nat) (v : Value) : But D w (w.setCell ⟨D, o, none⟩ v) := ⟨rfl, rfl, rfl, by simp [World.setCell], fun k _ hne => Below.heap_setCell _ _ _ _ hne⟩
theorem below_dN (B : Nat) (w : World) (n : Nat) : Below B w (w.drewN n) := ⟨rfl, rfl, rfl, Nat.le_refl _, fun _ _ => rfl⟩
theorem But.drewN {D : Nat} (w : World) (n : Nat) : But D w (w.drewN n) := ⟨rfl, rfl, rfl, Nat.le_refl _, fun _ _ _ => rfl⟩
theorem Row.but {w w' : World} {A : Option Addr} {n c sz D : Nat} {cs : List Value} (h : Row w A n c sz cs) (hb : But D w w') (hs : ∀ ad, A = some ad → 0 < n → ad.block ≠ D) : Row w' A n c sz cs :=
  h.keep fun ad hA h0 hlt => hb.block _ hlt (hs ad hA h0)
theorem But.grow {D : Nat} {w w1 w2 : World} (h : But D w w1) (hb : Below w.heap.size w1 w2) : But D w w2 :=
  ⟨hb.os.trans h.os, hb.tape.trans h.tape, hb.output.trans h.output, Nat.le_trans h.size hb.size, fun k hk hne => (hb.block k hk).trans (h.block k hk hne)⟩
theorem own_but {w w' : World} {B D : Nat} {e : TypeId} {sz : Nat} {v : Value} {n : Nat} {xs : List Value} (h : w.ownsRow B e sz v n xs) (hb : But D w w') (hD : D < B) : w'.ownsRow B e sz v n xs := by
  refine ⟨h.1, ?_⟩
  rcases h.2 with hn | ⟨g, cap, cur, rfl, hg, hgg, rest⟩
  · exact .inl hn
  · exact .inr ⟨g, cap, cur, rfl, hg, (hb.block g (Array.getElem?_eq_some_iff.1 hgg).1 (by omega)).trans hgg, rest⟩
/-- Dice of the numbers t, k of which have been given out, lie in block D; the numbers lie below block L. -/
structure DiceAt (w : World) (L D : Nat) (t : List Int) (k : Nat) : Prop where
  here : ∃ A n c, w.heap[D]? = some (.cells #[.slice A n c, .int .i64 k] 80 (0, 0)) ∧ Row w A n c 1 (intsV t) ∧ (∀ ad, A = some ad → 0 < n → ad.block < L)
  low : L ≤ D
  le : k ≤ t.length
  few : t.length ≤ 1000000
theorem DiceAt.lt {w : World} {L D k : Nat} {t : List Int} (h : DiceAt w L D t k) : D < w.heap.size := by
  obtain ⟨A, n, c, h1, _⟩ := h.here; exact (Array.getElem?_eq_some_iff.1 h1).1
/-- It stays where nothing has turned up to block D. -/
theorem DiceAt.below {w w' : World} {L D B k : Nat} {t : List Int} (h : DiceAt w L D t k) (hb : Below B w w') (hD : D < B) : DiceAt w' L D t k := by
  obtain ⟨A, n, c, h1, h2, h3⟩ := h.here
  exact ⟨⟨A, n, c, (hb.block D hD).trans h1, h2.keep (fun ad hA h0 _ => hb.block _ (Nat.lt_trans (Nat.lt_of_lt_of_le (h3 ad hA h0) h.low) hD)), h3⟩, h.low, h.le, h.few⟩
theorem DiceAt.later {w w' : World} {L D k : Nat} {t : List Int} (h : DiceAt w L D t k) (hb : Later w w') : DiceAt w' L D t k := h.below hb h.lt
/-- It stays where nothing has turned but another block, not below L. -/
theorem DiceAt.but {w w' : World} {L D E k : Nat} {t : List Int} (h : DiceAt w L D t k) (hb : But E w w') (hne : D ≠ E) (hE : L ≤ E) : DiceAt w' L D t k := by
  obtain ⟨A, n, c, h1, h2, h3⟩ := h.here
  exact ⟨⟨A, n, c, (hb.block D h.lt hne).trans h1, h2.but hb (fun ad hA h0 => by have := h3 ad hA h0; omega), h3⟩, h.low, h.le, h.few⟩
/-- What the next number is, and how many have been given out then. -/
def diceV (t : List Int) (k : Nat) (m : Int) : Int := if k < t.length then modF (t.getD k 0) m else 0
def diceK (t : List Int) (k : Nat) : Nat := if k < t.length then k + 1 else k
theorem diceV_bd (t : List Int) (k : Nat) (m : Int) (hm : 1 ≤ m) : 0 ≤ diceV t k m ∧ diceV t k m < m := by
  unfold diceV; split
  · exact modF_bd _ _ hm
  · omega
set_option maxHeartbeats 1000000 in
theorem next_any (L D : Nat) (t : List Int) (k : Nat) (m : Int) (w : World) (h : DiceAt w L D t k) (hm : 1 ≤ m) (hm2 : m ≤ 1000000) :
    Calls Tryz.prog 24 #[.pointer (some ⟨D, 0, none⟩), .int .i64 m] w fun e w' => e = .returned (.int .i64 (diceV t k m)) ∧ DiceAt w' L D t (diceK t k) ∧ But D w w' := by
  obtain ⟨A, n, c, h1, h2, h3⟩ := h.here
  have hl := h2.len
  rw [intsV_len, Nat.mul_one] at hl
  have hk := h.le
  have hf := h.few
  have hc0 : w.cell? ⟨D, 0, none⟩ = some (.slice A n c) := by rw [cell_of_row _ _ _ _ _ _ h1]; rfl
  have hc1 : w.cell? ⟨D, 1, none⟩ = some (.int .i64 k) := by rw [cell_of_row _ _ _ _ _ _ h1]; rfl
  have hfz : w.frozen? ⟨D, 1, none⟩ = false := frozen_of_row _ _ _ _ _ h1
  by_cases hlt : k < n
  · obtain ⟨b, off, hA, hcell⟩ := h2.form (by omega)
    have hx := hcell k (by omega)
    rw [intsV_get _ _ (by omega)] at hx
    unfold iv at hx
    have hlow := h.low
    have hne : b ≠ D := Nat.ne_of_lt (Nat.lt_of_lt_of_le (h3 _ hA (by omega)) hlow)
    have HV : Hid (diceV t k m = modF (t.getD k 0) m) := by unfold Hid diceV; rw [if_pos (by omega)]
    have HK : Hid (diceK t k = k + 1) := by unfold Hid diceK; rw [if_pos (by omega)]
    have H2 := Lib.hid h2; have H3 := Lib.hid h3; have H := Lib.hid h; have H1 := Lib.hid h1
    subst hA
    have hkb : k ≤ 1000000 := by omega
    clear h h1 h2 h3 hcell hl hk hf
    generalize t.getD k 0 = x at hx HV
    go_enter Tryz.func24, Tryz.ntmps24
    go_wp2_with fail
    go_quiet (fail)
    go_wp2_with fail
    have hb : But D w ((w.drewN nq).setCell ⟨D, 1, none⟩ (.int .i64 ((k : Int) + 1))) := (But.drewN w nq).trans (But.set _ _ _)
    have g1 : ((w.drewN nq).setCell ⟨D, 1, none⟩ (.int .i64 ((k : Int) + 1))).heap[D]? = some (.cells #[.slice (some ⟨b, off, none⟩) n c, .int .i64 ((k : Int) + 1)] 80 (0, 0)) :=
      heap_setCell_same (w.drewN nq) D 1 #[.slice (some ⟨b, off, none⟩) n c, .int .i64 k] _ _ H1.out
    generalize (w.drewN nq).setCell ⟨D, 1, none⟩ (.int .i64 ((k : Int) + 1)) = w2 at hb g1 ⊢
    have hd : DiceAt w2 L D t (k + 1) := ⟨⟨_, n, c, by rw [g1]; rfl, H2.out.but hb (fun ad hA h0 => Nat.ne_of_lt (Nat.lt_of_lt_of_le (H3.out ad hA h0) hlow)), H3.out⟩, hlow, by have := H2.out.len; rw [intsV_len, Nat.mul_one] at this; omega, H.out.few⟩
    clear hc0 hc1 hfz
    have hc0 : w2.cell? ⟨D, 0, none⟩ = some (.slice (some ⟨b, off, none⟩) n c) := by rw [cell_of_row _ _ _ _ _ _ g1]; rfl
    have hc1 : w2.cell? ⟨D, 1, none⟩ = some (.int .i64 ((k : Int) + 1)) := by rw [cell_of_row _ _ _ _ _ _ g1]; rfl
    have hx2 : w2.cell? ⟨b, off + k, none⟩ = some (.int .i64 x) := by
      rw [World.cell?_of_block (w := w) (a := ⟨b, off + k, none⟩) (hb.block b (World.block_lt_of_cell? w (a := ⟨b, off + k, none⟩) hx) hne)]; exact hx
    have HB := Lib.hid hb; have HD := Lib.hid hd; clear hb hd g1 hx
    have h0 : (0 : Int) ≤ (k : Int) + 1 - 1 := by omega
    have h00 : (k : Int) + 1 - 1 < n := by omega
    have h000 : ((k : Int) + 1 - 1).toNat = k := by omega
    go_quiet ((go_at_call 36; exact Calls.quiet_of_same ((mod_any x m _ hm hm2).mono (fun _ _ ⟨h1, h2⟩ => ⟨h1, h2.symm⟩))))
    go_wp2
    go_ret
    exact ⟨by rw [HV.out]; rfl, by rw [HK.out]; exact HD.out.later (below_dN _ _ _), HB.out.trans (But.drewN _ _)⟩
  · have HV : Hid (diceV t k m = 0) := by unfold Hid diceV; rw [if_neg (by omega)]
    have HK : Hid (diceK t k = k) := by unfold Hid diceK; rw [if_neg (by omega)]
    have H := Lib.hid h
    have hge : n ≤ k := by omega
    clear h h1 h2 h3 hl hk hf hfz
    go_enter Tryz.func24, Tryz.ntmps24
    go_wp2_with fail
    go_quiet (fail)
    go_wp2
    go_ret
    exact ⟨by rw [HV.out]; rfl, by rw [HK.out]; exact H.out.later (below_dN _ _ _), But.drewN _ _⟩
theorem light_any (A : Option Addr) (n c : Nat) (w : World) : Calls Tryz.prog 19 #[.slice A n c] w fun e w' => e = .returned (.bool (decide (n ≤ 400))) ∧ w = w' := by
  go_enter Tryz.func19, Tryz.ntmps19
  go_wp2
  go_ret
  exact ⟨by simp; omega, rfl⟩
set_option maxHeartbeats 1000000 in
theorem roll_any (L : Nat) (A : Option Addr) (n c : Nat) (t : List Int) (w : World) (h : Row w A n c 1 (intsV t)) (hn : n ≤ 1000000) (hL : L ≤ w.heap.size) (hA : ∀ ad, A = some ad → 0 < n → ad.block < L) :
    Calls Tryz.prog 20 #[.slice A n c] w fun e w' => e = .returned (.pointer (some ⟨w.heap.size, 0, none⟩)) ∧ DiceAt w' L w.heap.size t 0 ∧ Below w.heap.size w w' := by
  have H := Lib.hid h; have hl := h.len; rw [intsV_len, Nat.mul_one] at hl; have HL := Lib.hid hl; have HA := Lib.hid hA; clear h hl hA
  go_enter Tryz.func20, Tryz.ntmps20
  go_wp2
  go_ret
  exact ⟨rfl, ⟨⟨A, n, c, heap_alloc_new _ _, H.out.later ((Below.refl _ _).alloc (Nat.le_refl _) _), HA.out⟩, hL, Nat.zero_le _, by rw [HL.out]; exact hn⟩, (Below.refl _ _).alloc (Nat.le_refl _) _⟩
end Go.Proofs.YtnjilfdmplbalaaGreatDoor
