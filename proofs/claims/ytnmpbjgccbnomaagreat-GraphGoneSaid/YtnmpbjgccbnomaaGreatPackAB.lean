import Derived.Test.YtnmpbjgccbnomaaGreatPackAA
import Derived.BigQuiet
import Derived.Outline
import Derived.Maps.RangeRun
import Derived.MapKept
import Derived.WalkKit
import Derived.Laws.BitsAllLaws
import Derived.Test.YtnmpbjgccbnomaaGreatRows
import Derived.WalkSpells
import Derived.WalkLawsBesides
import Derived.StillTailTactics
import Derived.Deep.QuietTactic
import Derived.BigRegion
import Derived.Lib.Hide
import Derived.Laws.Rows
import Derived.Laws.OwnMore
import Derived.Laws.AppendOwnNone
import Derived.OwnWalk
import Derived.Lib.SlBytesRow
import Derived.Laws.CopyRow
import Derived.Deep.AppendLies
/- The walks of trustflowmade's dice: Light, Roll, Next, Of. -/
namespace Go.Proofs.YtnmpbjgccbnomaaGreat
open Go.RowKit
/-- Of what was there nothing has turned but block D. -/
structure But (D : Nat) (w w' : World) : Prop where
  os : w'.os = w.os
  tape : w'.tape = w.tape
  output : w'.output = w.output
  size : w.heap.size ≤ w'.heap.size
  block : ∀ k, k < w.heap.size → k ≠ D → w'.heap[k]? = w.heap[k]?
theorem But.refl (D : Nat) (w : World) : But D w w := ⟨rfl, rfl, rfl, Nat.le_refl _, fun _ _ _ => rfl⟩
theorem But.trans {D : Nat} {a b c : World} (h : But D a b) (k : But D b c) : But D a c :=
  ⟨k.os.trans h.os, k.tape.trans h.tape, k.output.trans h.output, Nat.le_trans h.size k.size, fun i hi hne => (k.block i (Nat.lt_of_lt_of_le hi h.size) hne).trans (h.block i hi hne)⟩
theorem But.of {D : Nat} {w w' : World} (h : Below w.heap.size w w') : But D w w' := ⟨h.os, h.tape, h.output, h.size, fun k hk _ => h.block k hk⟩
/-- Where block D is of the call's own. -/
theorem But.below {D B : Nat} {w w' : World} (h : But D w w') (hD : B ≤ D) (hB : B ≤ w.heap.size) : Below B w w' := ⟨h.os, h.tape, h.output, h.size, fun k hk => h.block k (by omega) (by omega)⟩
theorem But.set {D : Nat} (w : World) (o : Nat) (v : Value) : But D w (w.setCell ⟨D, o, none⟩ v) := ⟨rfl, rfl, rfl, by simp [World.setCell], fun k _ hne => Below.heap_setCell _ _ _ _ hne⟩
theorem below_dN (B : Nat) (w : World) (n : Nat) : Below B w (w.drewN n) := ⟨rfl, rfl, rfl, Nat.le_refl _, fun _ _ => rfl⟩
theorem But.drewN {D : Nat} (w : World) (n : Nat) : But D w (w.drewN n) := ⟨rfl, rfl, rfl, Nat.le_refl _, fun _ _ _ => rfl⟩
theorem Row.but {w w' : World} {A : Option Addr} {n c sz D : Nat} {cs : List Value} (h : Row w A n c sz cs) (hb : But D w w') (hs : ∀ ad, A = some ad → 0 < n → ad.block ≠ D) : Row w' A n c sz cs :=
  h.keep fun ad hA h0 hlt => hb.block _ hlt (hs ad hA h0)
theorem But.grow {D : Nat} {w w1 w2 : World} (h : But D w w1) (hb : Below w.heap.size w1 w2) : But D w w2 :=
  ⟨hb.os.trans h.os, hb.tape.trans h.tape, hb.output.trans h.output, Nat.le_trans h.size hb.size, fun k hk hne => (hb.block k hk).trans (h.block k hk hne)⟩
theorem own_but {w w' : World} {B D : Nat} {e : TypeId} {sz : Nat} {v : Value} {n : Nat} {xs : List Value} (h : w.ownsRow B e sz v n xs) (hb : But D w w') (hD : D < B) : w'.ownsRow B e sz v n xs := by
  refine ⟨h.1, ?_⟩
  rcases h.2 with hn | ⟨g, cap, cur, rfl, hg, hgg, rest⟩
  · exact .inl hn
  · exact .inr ⟨g, cap, cur, rfl, hg, (hb.block g (Array.getElem?_eq_some_iff.1 hgg).1 (by omega)).trans hgg, rest⟩
/-- Dice of the numbers t, k of which have been given out, lie in block D; the numbers lie below block L. -/
structure DiceAt (w : World) (L D : Nat) (t : List Int) (k : Nat) : Prop where
  here : ∃ A n c, w.heap[D]? = some (.cells #[.slice A n c, .int .i64 k] 56 (0, 0)) ∧ Row w A n c 1 (intsV t) ∧ (∀ ad, A = some ad → 0 < n → ad.block < L)
  low : L ≤ D
  le : k ≤ t.length
  few : t.length ≤ 1000000
theorem DiceAt.lt {w : World} {L D k : Nat} {t : List Int} (h : DiceAt w L D t k) : D < w.heap.size := by
  obtain ⟨A, n, c, h1, _⟩ := h.here; exact (Array.getElem?_eq_some_iff.1 h1).1
/-- It stays where nothing has turned up to block D. -/
theorem DiceAt.below {w w' : World} {L D B k : Nat} {t : List Int} (h : DiceAt w L D t k) (hb : Below B w w') (hD : D < B) : DiceAt w' L D t k := by
  obtain ⟨A, n, c, h1, h2, h3⟩ := h.here
  exact ⟨⟨A, n, c, (hb.block D hD).trans h1, h2.keep (fun ad hA h0 _ => hb.block _ (Nat.lt_trans (Nat.lt_of_lt_of_le (h3 ad hA h0) h.low) hD)), h3⟩, h.low, h.le, h.few⟩
theorem DiceAt.later {w w' : World} {L D k : Nat} {t : List Int} (h : DiceAt w L D t k) (hb : Later w w') : DiceAt w' L D t k := h.below hb h.lt
/-- It stays where nothing has turned but another block, not below L. -/
theorem DiceAt.but {w w' : World} {L D E k : Nat} {t : List Int} (h : DiceAt w L D t k) (hb : But E w w') (hne : D ≠ E) (hE : L ≤ E) : DiceAt w' L D t k := by
  obtain ⟨A, n, c, h1, h2, h3⟩ := h.here
  exact ⟨⟨A, n, c, (hb.block D h.lt hne).trans h1, h2.but hb (fun ad hA h0 => by have := h3 ad hA h0; omega), h3⟩, h.low, h.le, h.few⟩
/-- What the next number is, and how many have been given out then. -/
def diceV (t : List Int) (k : Nat) (m : Int) : Int := if k < t.length then modF (t.getD k 0) m else 0
def diceK (t : List Int) (k : Nat) : Nat := if k < t.length then k + 1 else k
theorem diceV_bd (t : List Int) (k : Nat) (m : Int) (hm : 1 ≤ m) : 0 ≤ diceV t k m ∧ diceV t k m < m := by
  unfold diceV; split
  · exact modF_bd _ _ hm
  · omega
set_option maxHeartbeats 1000000 in
theorem next_any (L D : Nat) (t : List Int) (k : Nat) (m : Int) (w : World) (h : DiceAt w L D t k) (hm : 1 ≤ m) (hm2 : m ≤ 1000000) :
    Calls Tryz.prog 26 #[.pointer (some ⟨D, 0, none⟩), .int .i64 m] w fun e w' => e = .returned (.int .i64 (diceV t k m)) ∧ DiceAt w' L D t (diceK t k) ∧ But D w w' := by
  obtain ⟨A, n, c, h1, h2, h3⟩ := h.here
  have hl := h2.len
  rw [intsV_len, Nat.mul_one] at hl
  have hk := h.le
  have hf := h.few
  have hc0 : w.cell? ⟨D, 0, none⟩ = some (.slice A n c) := by rw [cell_of_row _ _ _ _ _ _ h1]; rfl
  have hc1 : w.cell? ⟨D, 1, none⟩ = some (.int .i64 k) := by rw [cell_of_row _ _ _ _ _ _ h1]; rfl
  have hfz : w.frozen? ⟨D, 1, none⟩ = false := frozen_of_row _ _ _ _ _ h1
  by_cases hlt : k < n
  · obtain ⟨b, off, hA, hcell⟩ := h2.form (by omega)
    have hx := hcell k (by omega)
    rw [intsV_get _ _ (by omega)] at hx
    unfold iv at hx
    have hlow := h.low
    have hne : b ≠ D := Nat.ne_of_lt (Nat.lt_of_lt_of_le (h3 _ hA (by omega)) hlow)
    have HV : Hid (diceV t k m = modF (t.getD k 0) m) := by unfold Hid diceV; rw [if_pos (by omega)]
    have HK : Hid (diceK t k = k + 1) := by unfold Hid diceK; rw [if_pos (by omega)]
    have H2 := Lib.hid h2; have H3 := Lib.hid h3; have H := Lib.hid h; have H1 := Lib.hid h1
    subst hA
    have hkb : k ≤ 1000000 := by omega
    clear h h1 h2 h3 hcell hl hk hf
    generalize t.getD k 0 = x at hx HV
    go_enter Tryz.func26, Tryz.ntmps26
    go_wp2_with fail
    go_quiet (fail)
    go_wp2_with fail
    have hb : But D w ((w.drewN nq).setCell ⟨D, 1, none⟩ (.int .i64 ((k : Int) + 1))) := (But.drewN w nq).trans (But.set _ _ _)
    have g1 : ((w.drewN nq).setCell ⟨D, 1, none⟩ (.int .i64 ((k : Int) + 1))).heap[D]? = some (.cells #[.slice (some ⟨b, off, none⟩) n c, .int .i64 ((k : Int) + 1)] 56 (0, 0)) :=
      heap_setCell_same (w.drewN nq) D 1 #[.slice (some ⟨b, off, none⟩) n c, .int .i64 k] _ _ H1.out
    generalize (w.drewN nq).setCell ⟨D, 1, none⟩ (.int .i64 ((k : Int) + 1)) = w2 at hb g1 ⊢
    have hd : DiceAt w2 L D t (k + 1) := ⟨⟨_, n, c, by rw [g1]; rfl, H2.out.but hb (fun ad hA h0 => Nat.ne_of_lt (Nat.lt_of_lt_of_le (H3.out ad hA h0) hlow)), H3.out⟩, hlow, by have := H2.out.len; rw [intsV_len, Nat.mul_one] at this; omega, H.out.few⟩
    clear hc0 hc1 hfz
    have hc0 : w2.cell? ⟨D, 0, none⟩ = some (.slice (some ⟨b, off, none⟩) n c) := by rw [cell_of_row _ _ _ _ _ _ g1]; rfl
    have hc1 : w2.cell? ⟨D, 1, none⟩ = some (.int .i64 ((k : Int) + 1)) := by rw [cell_of_row _ _ _ _ _ _ g1]; rfl
    have hx2 : w2.cell? ⟨b, off + k, none⟩ = some (.int .i64 x) := by
      rw [World.cell?_of_block (w := w) (a := ⟨b, off + k, none⟩) (hb.block b (World.block_lt_of_cell? w (a := ⟨b, off + k, none⟩) hx) hne)]; exact hx
    have HB := Lib.hid hb; have HD := Lib.hid hd; clear hb hd g1 hx
    have h0 : (0 : Int) ≤ (k : Int) + 1 - 1 := by omega
    have h00 : (k : Int) + 1 - 1 < n := by omega
    have h000 : ((k : Int) + 1 - 1).toNat = k := by omega
    go_quiet ((go_at_call 10; exact Calls.quiet_of_same ((mod_any x m _ hm hm2).mono (fun _ _ ⟨h1, h2⟩ => ⟨h1, h2.symm⟩))))
    go_wp2
    go_ret
    exact ⟨by rw [HV.out]; rfl, by rw [HK.out]; exact HD.out.later (below_dN _ _ _), HB.out.trans (But.drewN _ _)⟩
  · have HV : Hid (diceV t k m = 0) := by unfold Hid diceV; rw [if_neg (by omega)]
    have HK : Hid (diceK t k = k) := by unfold Hid diceK; rw [if_neg (by omega)]
    have H := Lib.hid h
    have hge : n ≤ k := by omega
    clear h h1 h2 h3 hl hk hf hfz
    go_enter Tryz.func26, Tryz.ntmps26
    go_wp2_with fail
    go_quiet (fail)
    go_wp2
    go_ret
    exact ⟨by rw [HV.out]; rfl, by rw [HK.out]; exact H.out.later (below_dN _ _ _), But.drewN _ _⟩
theorem light_any (A : Option Addr) (n c : Nat) (w : World) : Calls Tryz.prog 5 #[.slice A n c] w fun e w' => e = .returned (.bool (decide (n ≤ 400))) ∧ w = w' := by
  go_enter Tryz.func5, Tryz.ntmps5
  go_wp2
  go_ret
  exact ⟨by simp; omega, rfl⟩
set_option maxHeartbeats 1000000 in
theorem roll_any (L : Nat) (A : Option Addr) (n c : Nat) (t : List Int) (w : World) (h : Row w A n c 1 (intsV t)) (hn : n ≤ 1000000) (hL : L ≤ w.heap.size) (hA : ∀ ad, A = some ad → 0 < n → ad.block < L) :
    Calls Tryz.prog 7 #[.slice A n c] w fun e w' => e = .returned (.pointer (some ⟨w.heap.size, 0, none⟩)) ∧ DiceAt w' L w.heap.size t 0 ∧ Below w.heap.size w w' := by
  have H := Lib.hid h; have hl := h.len; rw [intsV_len, Nat.mul_one] at hl; have HL := Lib.hid hl; have HA := Lib.hid hA; clear h hl hA
  go_enter Tryz.func7, Tryz.ntmps7
  go_wp2
  go_ret
  exact ⟨rfl, ⟨⟨A, n, c, heap_alloc_new _ _, H.out.later ((Below.refl _ _).alloc (Nat.le_refl _) _), HA.out⟩, hL, Nat.zero_le _, by rw [HL.out]; exact hn⟩, (Below.refl _ _).alloc (Nat.le_refl _) _⟩
end Go.Proofs.YtnmpbjgccbnomaaGreat
/- Maps whose keys are strings and whose elements are whatever they are, as the heap holds them: filled, looked into, ranged over. Plain facts over any program. -/
namespace Go.Proofs.YtnmpbjgccbnomaaGreat
open Go.RowKit Go Go.ChangeMaps
/-- The entries that hold some pairs, laid in their order, none taken away. -/
def entsFrom : List (ByteArray × Value) → Nat → List MapEntry
  | [], _ => []
  | p :: l, i => ⟨.string p.1, p.2, i⟩ :: entsFrom l (i + 1)
/-- The map in block b holds the pairs l. -/
def MapAt (w : World) (b : Nat) (l : List (ByteArray × Value)) : Prop := w.heap[b]? = some (.map (entsFrom l 0).toArray l.length)
theorem MapAt.lt {w : World} {b : Nat} {l : List (ByteArray × Value)} (h : MapAt w b l) : b < w.heap.size := (Array.getElem?_eq_some_iff.1 h).1
theorem MapAt.but {w w' : World} {b D : Nat} {l : List (ByteArray × Value)} (h : MapAt w b l) (hb : But D w w') (hne : b ≠ D) : MapAt w' b l := (hb.block b h.lt hne).trans h
theorem MapAt.later {w w' : World} {b : Nat} {l : List (ByteArray × Value)} (h : MapAt w b l) (hb : Below w.heap.size w w') : MapAt w' b l := (hb.block b h.lt).trans h
theorem setBlock_at {w : World} {b : Nat} {o x : Obj} (h : w.heap[b]? = some x) : (setBlock w b o).heap[b]? = some o := by
  have hlt := (Array.getElem?_eq_some_iff.1 h).1
  simp [setBlock, hlt]
theorem setBlock_but (w : World) (b : Nat) (o : Obj) : But b w (setBlock w b o) :=
  ⟨rfl, rfl, rfl, by simp [setBlock], fun k _ hne => by simp [setBlock, Ne.symm hne]⟩
section
variable {P : Program} {t kt et : TypeId} {w : World} {b : Nat} {l : List (ByteArray × Value)}
/-- An iterator in block r over the map in block b, of n pairs; those that have come. -/
def IterAt (w : World) (r b n : Nat) (seen : Array Nat) : Prop := w.heap[r]? = some (.mapIter (some b) n seen n)
theorem IterAt.lt {w : World} {r b n : Nat} {seen : Array Nat} (h : IterAt w r b n seen) : r < w.heap.size := (Array.getElem?_eq_some_iff.1 h).1
theorem IterAt.but {w w' : World} {r b n D : Nat} {seen : Array Nat} (h : IterAt w r b n seen) (hb : But D w w') (hne : r ≠ D) : IterAt w' r b n seen := (hb.block r h.lt hne).trans h
theorem IterAt.later {w w' : World} {r b n : Nat} {seen : Array Nat} (h : IterAt w r b n seen) (hb : Below w.heap.size w w') : IterAt w' r b n seen := (hb.block r h.lt).trans h
end
end Go.Proofs.YtnmpbjgccbnomaaGreat
/- The walks of package wire: Int, Text, Ints. -/
namespace Go.Proofs.YtnmpbjgccbnomaaGreat
open Go.RowKit
/-- What a string and a list are written as. -/
def textB (s : List UInt8) : List UInt8 := be8 (s.length : Int) ++ s
def listB (l : List Int) : List UInt8 := l.flatMap be8
def intsB (l : List Int) : List UInt8 := be8 (l.length : Int) ++ listB l
theorem textB_len (s : List UInt8) : (textB s).length = 8 + s.length := by simp [textB, be8_len]
theorem listB_len (l : List Int) : (listB l).length = 8 * l.length := by
  induction l with
  | nil => rfl
  | cons x l ih => simp only [listB, List.flatMap_cons, List.length_append, be8_len, List.length_cons] at ih ⊢; omega
theorem intsB_len (l : List Int) : (intsB l).length = 8 + 8 * l.length := by simp [intsB, be8_len, listB_len]
theorem listB_snoc (l : List Int) (x : Int) : listB (l ++ [x]) = listB l ++ be8 x := by simp [listB]
/-- A slice of bytes that a call hands back: it reads as us; what was there is as it was. -/
def GivesB (w : World) (us : List UInt8) (e : Ending) (w' : World) : Prop := ∃ A m c, e = .returned (.slice A m c) ∧ m = us.length ∧ BRow w' A m c us ∧ New w w' A ∧ Below w.heap.size w w'
theorem BOwn.gives {w w' : World} {v : Value} {us : List UInt8} (h : BOwn w' w.heap.size v us) (hb : Below w.heap.size w w') : GivesB w us (.returned v) w' := by
  obtain ⟨A, c, rfl, hr⟩ := h.row
  exact ⟨A, _, c, rfl, rfl, hr, fun ad hA => (by subst hA; exact World.ownsRow.lt h _ rfl), hb⟩
/-- The call returns bytes of its own. -/
def GivesO (w : World) (us : List UInt8) (e : Ending) (w' : World) : Prop := ∃ v, e = .returned v ∧ BOwn w' w.heap.size v us ∧ Below w.heap.size w w'
theorem GivesO.gives {w w' : World} {us : List UInt8} {e : Ending} (h : GivesO w us e w') : GivesB w us e w' := by
  obtain ⟨v, rfl, ho, hb⟩ := h; exact ho.gives hb
theorem take_snoc' {α : Type} (l : List α) (k : Nat) (d : α) (h : k < l.length) : l.take (k + 1) = l.take k ++ [l.getD k d] := by
  rw [List.take_succ_eq_append_getElem h]; simp [h]
end Go.Proofs.YtnmpbjgccbnomaaGreat
/- The walks of statement.numbers and Bytes. -/
namespace Go.Proofs.YtnmpbjgccbnomaaGreat
open Go.RowKit
theorem BOwn.later {w w' : World} {B : Nat} {v : Value} {us : List UInt8} (h : BOwn w B v us) (hb : Below w.heap.size w w') : BOwn w' B v us := own_below h hb fun k hk => (World.ownsRow.lt h k hk).2
theorem BOwn.from {w : World} {B B' : Nat} {v : Value} {us : List UInt8} (h : BOwn w B v us) (hb : B' ≤ B) : BOwn w B' v us := own_mono h hb
/-- The bytes of a pin, of pins; the body bytes of a statement. -/
def pinBs (p : PinD) : List UInt8 := listB [p.author, p.height] ++ textB p.digest.data.toList
def pinsBs (l : List PinD) : List UInt8 := l.flatMap pinBs
theorem pinsBs_app (l m : List PinD) : pinsBs (l ++ m) = pinsBs l ++ pinsBs m := by simp [pinsBs]
theorem pinsBs_snoc (l : List PinD) (p : PinD) : pinsBs (l ++ [p]) = pinsBs l ++ pinBs p := by simp [pinsBs]
def bodyB (s : Stm) : List UInt8 :=
  listB [s.author, s.number] ++ textB s.prev.data.toList ++ listB [s.time, s.kind, s.a, s.b, s.c] ++ intsB s.list ++ listB [(s.pins.length : Int)] ++ pinsBs s.pins ++ textB s.body.data.toList
/-- Not too much to be written. -/
structure Small (s : Stm) : Prop where
  prev : s.prev.size ≤ 1000
  list : s.list.length ≤ 1000
  pins : s.pins.length ≤ 1000
  all : (pinsBs s.pins).length ≤ 1500000
  body : s.body.size ≤ 100000
  dig : s.dig.size ≤ 1200000
theorem str_len (b : ByteArray) : b.data.toList.length = b.size := by simp
theorem textS_len (b : ByteArray) : (textB b.data.toList).length = 8 + b.size := by rw [textB_len, str_len]
theorem take_pins {s : Stm} (h : Small s) (k : Nat) : (pinsBs (s.pins.take k)).length ≤ 1500000 := by
  have h1 := h.all
  rw [← List.take_append_drop k s.pins, pinsBs_app, List.length_append] at h1
  omega
theorem pin_small {s : Stm} (h : Small s) (k : Nat) (hk : k < s.pins.length) : (s.pins.getD k noPin).digest.size ≤ 1500000 := by
  have h1 := take_pins h (k + 1)
  rw [take_snoc' s.pins k noPin hk, pinsBs_snoc, List.length_append] at h1
  unfold pinBs at h1
  rw [List.length_append, textS_len] at h1
  omega
/-- What readers of a drawn region find in a block of a statement. -/
theorem stm_futs {F : World → World → Prop} (hr : ∀ w, F w w) {W : World} {g : Nat} {s : Stm} {A : Option Addr} {n c : Nat} {B : Option Addr} {m k : Nat} {t : TypeId} {fr : Nat × Nat}
    (hF : ∀ w', F W w' → w'.heap[g]? = W.heap[g]?) (h : W.heap[g]? = some (.cells #[.int .i64 s.author, .int .i64 s.number, .string s.prev, .int .i64 s.time, .int .i64 s.kind, .int .i64 s.a, .int .i64 s.b, .int .i64 s.c, .slice A n c, .slice B m k, .string s.body, .int .i64 s.key, .string s.dig] t fr)) :
    (∀ x, (fut F W x).cell? ⟨g, 0, none⟩ = some (.int .i64 s.author)) ∧ (∀ x, (fut F W x).cell? ⟨g, 1, none⟩ = some (.int .i64 s.number)) ∧ (∀ x, (fut F W x).cell? ⟨g, 2, none⟩ = some (.string s.prev)) ∧ (∀ x, (fut F W x).cell? ⟨g, 3, none⟩ = some (.int .i64 s.time)) ∧ (∀ x, (fut F W x).cell? ⟨g, 4, none⟩ = some (.int .i64 s.kind)) ∧ (∀ x, (fut F W x).cell? ⟨g, 5, none⟩ = some (.int .i64 s.a)) ∧ (∀ x, (fut F W x).cell? ⟨g, 6, none⟩ = some (.int .i64 s.b)) ∧ (∀ x, (fut F W x).cell? ⟨g, 7, none⟩ = some (.int .i64 s.c)) ∧ (∀ x, (fut F W x).cell? ⟨g, 8, none⟩ = some (.slice A n c)) ∧ (∀ x, (fut F W x).cell? ⟨g, 9, none⟩ = some (.slice B m k)) ∧ (∀ x, (fut F W x).cell? ⟨g, 10, none⟩ = some (.string s.body)) ∧ (∀ x, (fut F W x).cell? ⟨g, 11, none⟩ = some (.int .i64 s.key)) ∧ (∀ x, (fut F W x).cell? ⟨g, 12, none⟩ = some (.string s.dig)) := by
  have h2 := fun x => stm_cells (s := s) ((hF _ (fut_ok hr W x)).trans h)
  exact ⟨fun x => (h2 x).1, fun x => (h2 x).2.1, fun x => (h2 x).2.2.1, fun x => (h2 x).2.2.2.1, fun x => (h2 x).2.2.2.2.1, fun x => (h2 x).2.2.2.2.2.1, fun x => (h2 x).2.2.2.2.2.2.1, fun x => (h2 x).2.2.2.2.2.2.2.1, fun x => (h2 x).2.2.2.2.2.2.2.2.1, fun x => (h2 x).2.2.2.2.2.2.2.2.2.1, fun x => (h2 x).2.2.2.2.2.2.2.2.2.2.1, fun x => (h2 x).2.2.2.2.2.2.2.2.2.2.2.1, fun x => (h2 x).2.2.2.2.2.2.2.2.2.2.2.2⟩
section
variable {P : Program} {ops : Array Oper} {a : Act} {o : Oper} {rest : List Oper} {Q : Exit → Act → World → Prop}
/-- append, and what it leaves alone: all old blocks but the slice's own. -/
theorem wpList_appK (w : World) (hgd : o.guard = none) (s x : Operand) (t tx e : TypeId) (ho : o.op = .call { callee := .builtin .append, args := #[s, x], argTypes := #[t, tx] })
    (base : Nat) (ht : P.underlying t = some (.slice e)) {z : Value} {size bytes : Nat} (hi : (P.info? e).map (fun i => (i.zero, i.size, i.bytes)) = some (some z, size, bytes)) (hzs : z.cells.size = size)
    (v : Value) (n : Nat) (xs : List Value) (hown : w.ownsRow base e size v n xs) (hs : a.eval s = v) (X : Value) (m : Nat) (news : List Value) (hsrc : Src P size tx X m news w) (hx : a.eval x = X)
    (h63 : n + m ≤ maxLen) (hbytes : (n + m) * bytes ≤ 140737488355328) (hbase : base ≤ w.heap.size)
    (h : ∀ v' w', w'.ownsRow base e size v' (n + m) (xs ++ news) → Below base w w' → (∀ k, k < w.heap.size → v.ownBlock ≠ some k → w'.heap[k]? = w.heap[k]?) → wpList P ops Q rest (a.put o.dst v') w') : wpList P ops Q (o :: rest) a w := by
  obtain ⟨i0, hi0, hz0, hz1, hz2⟩ := info_parts hi
  obtain ⟨v', w', hr, h2, h3, _⟩ := run_app w base t tx o.type e i0 z size bytes ht hi0 hz0 hz1 hz2 hzs v n xs hown X m news hsrc h63 hbytes hbase
  refine wpList_plain hgd fun K hK => ?_
  unfold Oper.wp execOp
  simp only [ho, resolve, invoke, builtin, Sem.run_bind, Sem.run_pure, Result.andThen_ok, List.map_toArray, List.map_cons, List.map_nil, hs, hx, hr]
  exact hK _ _ (h v' w' h2 ((Below.refl base w).grown h3 hbase (fun k hk => (World.ownsRow.lt hown k hk).1)) (fun k hk hne => h3.block k hk (fun e => hne e.symm)))
end
/-- Below G nothing turns, nor does block p. -/
def Keeps (G p : Nat) (a b : World) : Prop := Below G a b ∧ b.heap[p]? = a.heap[p]?
theorem Keeps.refl (G p : Nat) (a : World) : Keeps G p a a := ⟨Below.refl _ _, rfl⟩
theorem Keeps.trans {G p : Nat} {a b c : World} (h : Keeps G p a b) (k : Keeps G p b c) : Keeps G p a c := ⟨h.1.trans k.1, k.2.trans h.2⟩
theorem Keeps.of {G p : Nat} {a b : World} (h : Below a.heap.size a b) (hG : G ≤ a.heap.size) (hp : p < a.heap.size) : Keeps G p a b := ⟨h.mono hG, h.block p hp⟩
/-- What readers of a drawn region find in a block of a pin. -/
theorem pin_futs {F : World → World → Prop} (hr : ∀ w, F w w) {W : World} {g : Nat} {x y : Int} {z : ByteArray} {t : TypeId} {fr : Nat × Nat}
    (hF : ∀ w', F W w' → w'.heap[g]? = W.heap[g]?) (h : W.heap[g]? = some (.cells #[.int .i64 x, .int .i64 y, .string z] t fr)) :
    (∀ x', (fut F W x').cell? ⟨g, 0, none⟩ = some (.int .i64 x)) ∧ (∀ x', (fut F W x').cell? ⟨g, 1, none⟩ = some (.int .i64 y)) ∧ (∀ x', (fut F W x').cell? ⟨g, 2, none⟩ = some (.string z)) := by
  have h2 := fun x' => (hF _ (fut_ok hr W x')).trans h
  exact ⟨fun x' => by rw [cell_of_row _ _ _ _ _ _ (h2 x')]; rfl, fun x' => by rw [cell_of_row _ _ _ _ _ _ (h2 x')]; rfl, fun x' => by rw [cell_of_row _ _ _ _ _ _ (h2 x')]; rfl⟩
theorem nums_row {w : World} (l : List Int) (cs : Array Value) (t : TypeId) (fr : Nat × Nat) (h : cs = (intsV l).toArray) (n : Nat) (hn : l.length = n) : IRow (w.alloc (.cells cs t fr)) (some ⟨w.heap.size, 0, none⟩) n n l := by
  subst h; subst hn
  exact Row.of_block (cs := (intsV l).toArray) (heap_alloc_new _ _) (by simp [intsV])
end Go.Proofs.YtnmpbjgccbnomaaGreat
/- Words of 32 bits and bytes as the walk spells them: plain facts, no program. -/
namespace Go.Proofs.YtnmpbjgccbnomaaGreat

/-- A word of 32 bits, as the integer that the model holds. -/
def w32 (x : UInt32) : Int := (x.toNat : Int)
def ushr (x : UInt32) (n : Nat) : UInt32 := UInt32.ofNat (x.toNat / 2 ^ n)
def ushl (x : UInt32) (n : Nat) : UInt32 := UInt32.ofNat (x.toNat * 2 ^ n)
def rotr (x : UInt32) (n : Nat) : UInt32 := ushl x (32 - n) ||| ushr x n

theorem w32_lt (x : UInt32) : x.toNat < 4294967296 := x.toNat_lt
theorem w32_of (n : Nat) (h : n < 4294967296) : w32 (UInt32.ofNat n) = (n : Int) := by
  unfold w32; rw [UInt32.toNat_ofNat_of_lt' (by simpa using h)]
theorem bits_and (x y : UInt32) : bits .and .u32 (w32 x) (w32 y) = w32 (x &&& y) := by
  unfold w32; rw [u32_and_nat _ _ (w32_lt x) (w32_lt y), UInt32.toNat_and]
theorem bits_or (x y : UInt32) : bits .or .u32 (w32 x) (w32 y) = w32 (x ||| y) := by
  unfold w32; rw [u32_or_nat _ _ (w32_lt x) (w32_lt y), UInt32.toNat_or]
theorem bits_xor (x y : UInt32) : bits .xor .u32 (w32 x) (w32 y) = w32 (x ^^^ y) := by
  unfold w32; rw [u32_xor_nat _ _ (w32_lt x) (w32_lt y), UInt32.toNat_xor]
theorem bits_not (x : UInt32) : bits .xor .u32 4294967295 (w32 x) = w32 (~~~x) := by
  rw [show (4294967295 : Int) = w32 4294967295 from rfl, bits_xor]
  have h : (4294967295 : UInt32) ^^^ x = ~~~x := by
    apply UInt32.toBitVec_inj.1
    have : (4294967295 : UInt32).toBitVec = BitVec.allOnes 32 := by decide
    rw [UInt32.toBitVec_xor, this, UInt32.toBitVec_not, BitVec.allOnes_xor]
  rw [h]
theorem wrap_add (x y : UInt32) : IntKind.u32.wrap (w32 x + w32 y) = w32 (x + y) := by
  rw [IntKind.wrap_u32]; unfold w32; rw [UInt32.toNat_add]; omega
theorem run_shr (yk : IntKind) (x : UInt32) (n : Int) (h0 : 0 ≤ n) : Op.shift .shr .u32 (w32 x) yk n = pure (.int .u32 (w32 (ushr x n.toNat))) := by
  rw [shift_shr_any _ _ _ _ h0]
  have hx := w32_lt x
  have e : x.toNat / 2 ^ min n.toNat 32 = x.toNat / 2 ^ n.toNat := by
    rcases Nat.le_total n.toNat 32 with h | h
    · rw [Nat.min_eq_left h]
    · rw [Nat.min_eq_right h, Nat.div_eq_of_lt (by simpa using hx), Nat.div_eq_of_lt]
      exact Nat.lt_of_lt_of_le (by simpa using hx) (Nat.pow_le_pow_right (by omega) h)
  have hlt : x.toNat / 2 ^ n.toNat < 4294967296 := Nat.lt_of_le_of_lt (Nat.div_le_self _ _) hx
  unfold ushr
  rw [w32_of _ hlt, ← e]
  unfold w32
  simp [IntKind.bits]
theorem run_shl (yk : IntKind) (x : UInt32) (n : Int) (h0 : 0 ≤ n) : Op.shift .shl .u32 (w32 x) yk n = pure (.int .u32 (w32 (ushl x n.toNat))) := by
  rw [shift_shl_any _ _ _ _ h0]
  have e : x.toNat * 2 ^ min n.toNat 32 % 4294967296 = x.toNat * 2 ^ n.toNat % 4294967296 := by
    rcases Nat.le_total n.toNat 32 with h | h
    · rw [Nat.min_eq_left h]
    · rw [Nat.min_eq_right h, show n.toNat = 32 + (n.toNat - 32) by omega, Nat.pow_add]
      have : (2 : Nat) ^ 32 = 4294967296 := by decide
      rw [this, ← Nat.mul_assoc, Nat.mul_mod_left, Nat.mul_right_comm, Nat.mul_mod_left]
  unfold ushl w32
  rw [IntKind.wrap_u32, UInt32.toNat_ofNat', show (2 : Nat) ^ 32 = 4294967296 by decide, ← e]
  simp [IntKind.bits]
theorem wrap_byte (b : UInt8) : IntKind.u32.wrap (w8 b) = w32 b.toUInt32 := by
  rw [IntKind.wrap_u32]; unfold w8 w32; have := w8_lt b; rw [UInt8.toNat_toUInt32]; omega
theorem wrap_low (x : UInt32) : IntKind.u8.wrap (w32 x) = w8 x.toUInt8 := by
  rw [IntKind.wrap_u8]; unfold w8 w32; rw [UInt32.toNat_toUInt8]; omega
attribute [go_sem] bits_and bits_or bits_xor bits_not wrap_add wrap_byte wrap_low
theorem bits_not_max (x : UInt32) : bits .xor .u32 IntKind.u32.max (w32 x) = w32 (~~~x) := bits_not x
theorem bits_not_if (x : UInt32) : bits .xor .u32 (if IntKind.u32.signed = true then -1 else IntKind.u32.max) (w32 x) = w32 (~~~x) := bits_not x
attribute [go_sem] bits_not_max bits_not_if
attribute [go_sem ↓] run_shr run_shl
end Go.Proofs.YtnmpbjgccbnomaaGreat
/- The walks of the two functions that turn a word. -/
namespace Go.Proofs.YtnmpbjgccbnomaaGreat
open Go.RowKit
theorem rotr_comm (x : UInt32) (n : Nat) : ushr x n ||| ushl x (32 - n) = rotr x n := UInt32.or_comm _ _
set_option maxHeartbeats 400000 in
theorem turn_any (x : UInt32) (n : Nat) (h1 : 1 ≤ n) (h : n ≤ 31) (w : World) :
    Calls Tryz.prog 128 #[.int .u32 (w32 x), .int .u64 n] w fun e w' => e = .returned (.int .u32 (w32 (rotr x n))) ∧ w = w' := by
  have h2 : n ≤ 32 := by omega
  have h3 : (n : Int) ≤ 32 := by omega
  go_enter Tryz.func128, Tryz.ntmps128
  go_wp2
  go_ret
  exact ⟨by rw [← rotr_comm]; rfl, rfl⟩
end Go.Proofs.YtnmpbjgccbnomaaGreat
/- The digest as plain functions on words and bytes: no program. -/
namespace Go.Proofs.YtnmpbjgccbnomaaGreat
open Go.RowKit
namespace Sha
/-- Word i of a block of bytes. -/
def word (bs : Nat → UInt8) (i : Nat) : UInt32 :=
  ushl (bs (4 * i)).toUInt32 24 ||| ushl (bs (4 * i + 1)).toUInt32 16 ||| ushl (bs (4 * i + 2)).toUInt32 8 ||| (bs (4 * i + 3)).toUInt32
def small0 (x : UInt32) : UInt32 := rotr x 7 ^^^ rotr x 18 ^^^ ushr x 3
def small1 (x : UInt32) : UInt32 := rotr x 17 ^^^ rotr x 19 ^^^ ushr x 10
/-- Element i of a list of words. -/
def at_ (l : List UInt32) (i : Nat) : UInt32 := l.getD i 0
/-- The word behind the words of l. -/
def nextW (l : List UInt32) : UInt32 :=
  at_ l (l.length - 16) + small0 (at_ l (l.length - 15)) + at_ l (l.length - 7) + small1 (at_ l (l.length - 2))
def firsts (bs : Nat → UInt8) (k : Nat) : List UInt32 := (List.range k).map (word bs)
def schedTo (bs : Nat → UInt8) : Nat → List UInt32
  | 0 => firsts bs 16
  | k + 1 => schedTo bs k ++ [nextW (schedTo bs k)]
def sched (bs : Nat → UInt8) : List UInt32 := schedTo bs 48
theorem firsts_succ (bs : Nat → UInt8) (k : Nat) : firsts bs (k + 1) = firsts bs k ++ [word bs k] := by simp [firsts, List.range_succ]
theorem firsts_len (bs : Nat → UInt8) (k : Nat) : (firsts bs k).length = k := by simp [firsts]
theorem schedTo_len (bs : Nat → UInt8) (k : Nat) : (schedTo bs k).length = 16 + k := by
  induction k with
  | zero => simp [schedTo, firsts]
  | succ k ih => simp [schedTo, ih]; omega

structure St where
  a : UInt32
  b : UInt32
  c : UInt32
  d : UInt32
  e : UInt32
  f : UInt32
  g : UInt32
  h : UInt32
def ch (e f g : UInt32) : UInt32 := e &&& f ^^^ ~~~e &&& g
def maj (a b c : UInt32) : UInt32 := a &&& b ^^^ a &&& c ^^^ b &&& c
def big0 (a : UInt32) : UInt32 := rotr a 2 ^^^ rotr a 13 ^^^ rotr a 22
def big1 (e : UInt32) : UInt32 := rotr e 6 ^^^ rotr e 11 ^^^ rotr e 25
def vv (s : St) (k w : UInt32) : UInt32 := s.h + big1 s.e + ch s.e s.f s.g + k + w
def round (s : St) (k w : UInt32) : St :=
  { a := vv s k w + big0 s.a + maj s.a s.b s.c, b := s.a, c := s.b, d := s.c, e := s.d + vv s k w, f := s.e, g := s.f, h := s.g }
def K : List UInt32 := [
  1116352408, 1899447441, 3049323471, 3921009573, 961987163, 1508970993, 2453635748, 2870763221, 3624381080, 310598401, 607225278, 1426881987, 1925078388, 2162078206, 2614888103, 3248222580,
  3835390401, 4022224774, 264347078, 604807628, 770255983, 1249150122, 1555081692, 1996064986, 2554220882, 2821834349, 2952996808, 3210313671, 3336571891, 3584528711, 113926993, 338241895,
  666307205, 773529912, 1294757372, 1396182291, 1695183700, 1986661051, 2177026350, 2456956037, 2730485921, 2820302411, 3259730800, 3345764771, 3516065817, 3600352804, 4094571909, 275423344,
  430227734, 506948616, 659060556, 883997877, 958139571, 1322822218, 1537002063, 1747873779, 1955562222, 2024104815, 2227730452, 2361852424, 2428436474, 2756734187, 3204031479, 3329325298]
def kAt (i : Nat) : UInt32 := at_ K i
def rounds (ws : List UInt32) : Nat → St → St
  | 0, s => s
  | i + 1, s => round (rounds ws i s) (kAt i) (at_ ws i)
theorem rounds_succ {ws : List UInt32} {k : Nat} {s t : St} (h : t = rounds ws k s) : round t (kAt k) (at_ ws k) = rounds ws (k + 1) s := by
  subst h; rfl
theorem round_eq (t : St) (k w : UInt32) : round t k w =
    ⟨t.h + (rotr t.e 6 ^^^ rotr t.e 11 ^^^ rotr t.e 25) + (t.e &&& t.f ^^^ ~~~t.e &&& t.g) + k + w + (rotr t.a 2 ^^^ rotr t.a 13 ^^^ rotr t.a 22) + (t.a &&& t.b ^^^ t.a &&& t.c ^^^ t.b &&& t.c), t.a, t.b, t.c,
      t.d + (t.h + (rotr t.e 6 ^^^ rotr t.e 11 ^^^ rotr t.e 25) + (t.e &&& t.f ^^^ ~~~t.e &&& t.g) + k + w), t.e, t.f, t.g⟩ := rfl
def addS (s t : St) : St := { a := s.a + t.a, b := s.b + t.b, c := s.c + t.c, d := s.d + t.d, e := s.e + t.e, f := s.f + t.f, g := s.g + t.g, h := s.h + t.h }
/-- The state with a block mixed in. -/
def mixF (s : St) (bs : Nat → UInt8) : St := addS s (rounds (sched bs) 64 s)
def start : St := { a := 1779033703, b := 3144134277, c := 1013904242, d := 2773480762, e := 1359893119, f := 2600822924, g := 528734635, h := 1541459225 }
end Sha
/-- Words as the cells of an array, and what is not yet laid of it. -/
def cellsW (l : List UInt32) (n : Nat) : Array Value := (l.map (fun x => Value.int .u32 (w32 x)) ++ List.replicate (n - l.length) (Value.int .u32 0)).toArray
theorem cellsW_get (l : List UInt32) (n i : Nat) (h : i < l.length) : (cellsW l n)[i]? = some (.int .u32 (w32 (Sha.at_ l i))) := by
  simp [cellsW, List.getElem?_append, h, Sha.at_]
theorem cellsW_rest (l : List UInt32) (n i : Nat) (h : l.length ≤ i) (hn : i < n) : (cellsW l n)[i]? = some (.int .u32 0) := by
  have h2 : i - l.length < n - l.length := by omega
  have h3 : (l.map (fun x => Value.int .u32 (w32 x))).length ≤ i := by simpa using h
  unfold cellsW
  rw [List.getElem?_toArray, List.getElem?_append_right h3, List.length_map, List.getElem?_replicate, if_pos h2]
theorem cellsW_push (l : List UInt32) (n : Nat) (x : UInt32) (h : l.length < n) : (cellsW l n).setIfInBounds l.length (.int .u32 (w32 x)) = cellsW (l ++ [x]) n := by
  have e : n - l.length = (n - (l.length + 1)) + 1 := by omega
  simp [cellsW, e, List.replicate_succ]
theorem below_setRow {B : Nat} {a w : World} (h : Below B a w) {g : Nat} (hg : B ≤ g) (cs : Array Value) : Below B a (w.setRow g cs) :=
  ⟨h.os, h.tape, h.output, by rw [setRow_size]; exact h.size, fun k hk => (setRow_other w g k cs (by omega)).trans (h.block k hk)⟩
end Go.Proofs.YtnmpbjgccbnomaaGreat
/- The walk of digest.schedule. -/
namespace Go.Proofs.YtnmpbjgccbnomaaGreat
open Go.RowKit
end Go.Proofs.YtnmpbjgccbnomaaGreat
/- The walk of digest.mix. -/
namespace Go.Proofs.YtnmpbjgccbnomaaGreat
open Go.RowKit
end Go.Proofs.YtnmpbjgccbnomaaGreat
/- Memory that a call itself makes, byte by byte: plain facts over any program. -/
namespace Go.Proofs.YtnmpbjgccbnomaaGreat
open Go.RowKit
/-- What the call itself has made of bytes: slice v holds the bytes l, in a block from B on. -/
def Owns (w : World) (B : Nat) (e : TypeId) (v : Value) (l : List UInt8) : Prop := w.ownsRow B e 1 v l.length (bytesV l)
theorem Owns.alloc {w : World} {B : Nat} {e : TypeId} {v : Value} {l : List UInt8} (h : Owns w B e v l) (o : Obj) : Owns (w.alloc o) B e v l := World.ownsRow.alloc h o
theorem Owns.below {w w' : World} {B B' : Nat} {e : TypeId} {v : Value} {l : List UInt8} (h : Owns w B e v l) (hb : Below B' w w') (hv : ∀ k, v.ownBlock = some k → k < B') : Owns w' B e v l := by
  refine ⟨h.1, ?_⟩
  rcases h.2 with hn | ⟨g, cap, cur, rfl, hg, hgg, rest⟩
  · exact .inl hn
  · exact .inr ⟨g, cap, cur, rfl, hg, (hb.block g (hv g rfl)).trans hgg, rest⟩
/-- The cells of a slice of bytes that the call itself has made. -/
theorem Owns.form {w : World} {B : Nat} {e : TypeId} {v : Value} {l : List UInt8} (h : Owns w B e v l) (hn : 0 < l.length) :
    ∃ g cap, v = .slice (some ⟨g, 0, none⟩) l.length cap ∧ B ≤ g ∧ g < w.heap.size ∧ l.length ≤ cap ∧ cap ≤ maxLen ∧ ∀ i, i < l.length → w.cell? ⟨g, i, none⟩ = some (bv (l.getD i 0)) := by
  rcases h.2 with ⟨_, h0⟩ | ⟨g, cap, cur, rfl, hg, hgg, h1, h2, _⟩
  · omega
  · refine ⟨g, cap, rfl, hg, (Array.getElem?_eq_some_iff.1 hgg).1, h1, h2, fun i hi => ?_⟩
    have := World.ownsRow.cellAt (size := 1) h i (by omega)
    rw [this, bytesV_get _ _ hi]
section
variable {P : Program} {ops : Array Oper} {rest : List Oper} {o : Oper} {a : Act} {Q : Exit → Act → World → Prop}
/-- append of cells that a new block holds, onto a slice of the call's own. -/
theorem wpList_push (wr : World) (hgd : o.guard = none) (s x : Operand) (t e : TypeId) (ho : o.op = .call { callee := .builtin .append, args := #[s, x], argTypes := #[t, t] })
    (B : Nat) (ht : P.underlying t = some (.slice e)) (hi : (P.info? e).map (fun i => (i.zero, i.size, i.bytes)) = some (some (.int .u8 0), 1, 1))
    (v : Value) (l : List UInt8) (hown : Owns wr B e v l) (hs : a.eval s = v) (m : Nat) (us : List UInt8) (hm : us.length = m) (cs : Array Value) (hcs : cs = (bytesV us).toArray)
    (hx : a.eval x = .slice (some ⟨wr.heap.size, 0, none⟩) m m) (hsz : l.length + m ≤ 1000000000) (hB : B ≤ wr.heap.size)
    (h : ∀ v' w', Owns w' B e v' (l ++ us) → Below B wr w' → wpList P ops Q rest (a.put o.dst v') w') : wpList P ops Q (o :: rest) a (wr.alloc (.cells cs e)) := by
  obtain ⟨i0, hi0, hz0, hz1, hz2⟩ := info_parts hi
  subst hcs
  refine wpList_append_own _ hgd s x t ho B e i0 (.int .u8 0) 1 1 ht hi0 hz0 hz1 hz2 rfl (by decide) v l.length (bytesV l) hs (World.ownsRow.alloc hown _) ⟨wr.heap.size, 0, none⟩ m m (bytesV us) hx (by rw [bytesV_len, hm]; omega) ?_ (bytesV_one us) (by unfold maxLen; omega) (by omega) (by simp; omega) ?_
  · intro j u hu
    rw [show ((⟨wr.heap.size, 0, none⟩ : Addr).add j) = ⟨wr.heap.size, j, none⟩ from by rw [Addr.add_lit, Nat.zero_add], cell_of_row _ _ _ _ _ _ (heap_alloc_new _ _)]
    simpa using hu
  · intro v' w' h1 h2 _
    refine h v' w' ?_ ?_
    · unfold Owns; rw [bytesV_app, List.length_append, hm]; exact h1
    · refine ((Below.refl B wr).alloc hB _).grown h2 (by simp; omega) (fun k hk => ?_)
      exact (World.ownsRow.lt hown k hk).1
end
/-- A slice value that reads as the bytes us; nil and empty slices too. -/
structure SliceAt (w : World) (A : Option Addr) (n c : Nat) (us : List UInt8) : Prop where
  len : us.length = n
  cap : n ≤ c
  nil : A = none → n = 0 ∧ c = 0
  some_ : ∀ ad, A = some ad → 0 < n → ∃ b off, ad = ⟨b, off, none⟩ ∧ ∀ i, i < n → w.cell? ⟨b, off + i, none⟩ = some (bv (us.getD i 0))
theorem SliceAt.below {w w' : World} {A : Option Addr} {n c : Nat} {us : List UInt8} (h : SliceAt w A n c us) (hb : Below w.heap.size w w') : SliceAt w' A n c us := by
  refine ⟨h.len, h.cap, h.nil, fun ad hA hn => ?_⟩
  obtain ⟨b, off, e, hc⟩ := h.some_ ad hA hn
  refine ⟨b, off, e, fun i hi => ?_⟩
  rw [hb.cell (p := ⟨b, off + i, none⟩) (block_lt_of_cell (hc i hi))]; exact hc i hi
section
variable {P : Program} {ops : Array Oper} {rest : List Oper} {o : Oper} {a : Act} {Q : Exit → Act → World → Prop}
/-- The same as one step of a region that draws its order. -/
theorem step_push {K : Act → World → Prop} {E : Prop} (wr : World) (hgd : o.guard = none) (s x : Operand) (t e : TypeId) (ho : o.op = .call { callee := .builtin .append, args := #[s, x], argTypes := #[t, t] })
    (B : Nat) (ht : P.underlying t = some (.slice e)) (hi : (P.info? e).map (fun i => (i.zero, i.size, i.bytes)) = some (some (.int .u8 0), 1, 1))
    (v : Value) (l : List UInt8) (hown : Owns wr B e v l) (hs : a.eval s = v) (m : Nat) (us : List UInt8) (hm : us.length = m) (cs : Array Value) (hcs : cs = (bytesV us).toArray)
    {ad : Addr} (had : ad = ⟨wr.heap.size, 0, none⟩) (hx : a.eval x = .slice (some ad) m m) {w0 : World} (hw0 : w0 = wr.alloc (.cells cs e)) (hsz : l.length + m ≤ 1000000000) (hB : B ≤ wr.heap.size)
    (h : ∀ v' w', Owns w' B e v' (l ++ us) → Below B wr w' → K (a.put o.dst v') w') : if Region.wanted o (yielded ops a.tmps) = true then Oper.wp P o a w0 K Q else E := by
  have hw : Region.wanted o (yielded ops a.tmps) = true := by simp [Region.wanted, hgd]
  rw [if_pos hw]
  obtain ⟨i0, hi0, hz0, hz1, hz2⟩ := info_parts hi
  subst hcs hw0 had
  refine wp_append_own _ s x t ho B e i0 (.int .u8 0) 1 1 ht hi0 hz0 hz1 hz2 rfl (by decide) v l.length (bytesV l) hs (World.ownsRow.alloc hown _) ⟨wr.heap.size, 0, none⟩ m m (bytesV us) hx (by rw [bytesV_len, hm]; omega) ?_ (bytesV_one us) (by unfold maxLen; omega) (by omega) (by simp; omega) ?_
  · intro j u hu
    rw [show ((⟨wr.heap.size, 0, none⟩ : Addr).add j) = ⟨wr.heap.size, j, none⟩ from by rw [Addr.add_lit, Nat.zero_add], cell_of_row _ _ _ _ _ _ (heap_alloc_new _ _)]
    simpa using hu
  · intro v' w' h1 h2 _
    refine h v' w' ?_ ?_
    · unfold Owns; rw [bytesV_app, List.length_append, hm]; exact h1
    · refine ((Below.refl B wr).alloc hB _).grown h2 (by simp; omega) (fun k hk => ?_)
      exact (World.ownsRow.lt hown k hk).1
/-- append of all bytes of another slice, onto a slice of the call's own. -/
theorem wpList_spread (wr : World) (hgd : o.guard = none) (s x : Operand) (t e : TypeId) (ho : o.op = .call { callee := .builtin .append, args := #[s, x], argTypes := #[t, t] })
    (B : Nat) (ht : P.underlying t = some (.slice e)) (hi : (P.info? e).map (fun i => (i.zero, i.size, i.bytes)) = some (some (.int .u8 0), 1, 1))
    (v : Value) (l : List UInt8) (hown : Owns wr B e v l) (hs : a.eval s = v) (A : Option Addr) (m c : Nat) (us : List UInt8) (hat : SliceAt wr A m c us)
    (hx : a.eval x = .slice A m c) (hsz : l.length + m ≤ 1000000000) (hB : B ≤ wr.heap.size)
    (h : ∀ v' w', Owns w' B e v' (l ++ us) → Below B wr w' → wpList P ops Q rest (a.put o.dst v') w') : wpList P ops Q (o :: rest) a wr := by
  obtain ⟨i0, hi0, hz0, hz1, hz2⟩ := info_parts hi
  rcases A with _ | ad
  · obtain ⟨h0, h1⟩ := hat.nil rfl
    subst h0 h1
    have hu : us = [] := List.eq_nil_of_length_eq_zero hat.len
    subst hu
    refine wpList_append_own_none hgd s x t ho B e i0 1 ht hi0 v l.length (bytesV l) hs hown hx ?_
    exact h v wr (by simpa using hown) (Below.refl _ _)
  · refine wpList_append_own _ hgd s x t ho B e i0 (.int .u8 0) 1 1 ht hi0 hz0 hz1 hz2 rfl (by decide) v l.length (bytesV l) hs hown ad m c (bytesV us) hx (by rw [bytesV_len, hat.len]; omega) ?_ (bytesV_one us) (by unfold maxLen; omega) (by omega) hB ?_
    · intro j u hu
      have hj : j < m := by
        have h1 : j < (bytesV us).length := by
          rcases Nat.lt_or_ge j (bytesV us).length with h1 | h1
          · exact h1
          · rw [List.getElem?_eq_none h1] at hu; cases hu
        rw [bytesV_len, hat.len] at h1; exact h1
      obtain ⟨b, off, rfl, hc⟩ := hat.some_ ad rfl (by omega)
      rw [bytesV_get _ _ (by rw [hat.len]; omega)] at hu
      rw [Addr.add_lit, hc j hj]; exact hu
    · intro v' w' h1 h2 _
      refine h v' w' ?_ ?_
      · unfold Owns; rw [bytesV_app, List.length_append, hat.len]; exact h1
      · exact (Below.refl B wr).grown h2 hB (fun k hk => (World.ownsRow.lt hown k hk).1)
end
theorem run_conv_owned {P : Program} (w : World) (src e dst : TypeId) (hs : P.underlying src = some (.slice e)) (he : P.underlying e = some (.int .u8)) (hd : P.underlying dst = some .string)
    (g off : Nat) (l : List UInt8) (n : Nat) (hn : l.length = n) (hc : ∀ i, i < n → w.cell? ⟨g, off + i, none⟩ = some (bv (l.getD i 0))) (cap : Nat) :
    (convert src dst (.slice (some ⟨g, off, none⟩) n cap)).run P w = .ok (.string (strOf l)) w := by
  have hsz := strOf_size l
  have h := Lib.run_convert_whole (P := P) w src e dst hs he hd g off (strOf l) (fun i hi => by
    have h1 : i < l.length := by omega
    have h2 : (strOf l)[i]'hi = l.getD i 0 := by simp [strOf, ByteArray.getElem_eq_getElem_data, h1]
    have h3 : bv (l.getD i 0) = .int .u8 (((strOf l)[i]'hi).toNat : Int) := by unfold bv w8; exact congrArg (fun x : UInt8 => Value.int .u8 (x.toNat : Int)) h2.symm
    exact (hc i (by omega)).trans (congrArg some h3)) cap
  rw [hsz, hn] at h
  exact h
/-- Byte k of a number of 8 bytes, the most significant first. -/
def sh8 (v k : Nat) : Nat := v / 2 ^ (56 - 8 * k)
def wideAt (v k : Nat) : UInt8 := UInt8.ofNat (sh8 v k)
def wideTo (v k : Nat) : List UInt8 := (List.range k).map (wideAt v)
def wide (v : Nat) : List UInt8 := wideTo v 8
theorem wideTo_succ (v k : Nat) : wideTo v (k + 1) = wideTo v k ++ [wideAt v k] := by simp [wideTo, List.range_succ]
theorem wideTo_len (v k : Nat) : (wideTo v k).length = k := by simp [wideTo]
theorem wideAt_eq (v k : Nat) : (v : Int) / 2 ^ (56 - 8 * k) % 256 = w8 (wideAt v k) := by
  unfold wideAt w8 sh8; rw [UInt8.toNat_ofNat']; simp
end Go.Proofs.YtnmpbjgccbnomaaGreat
/- The walks of digest.appendWide and digest.padded. -/
namespace Go.Proofs.YtnmpbjgccbnomaaGreat
open Go.RowKit
/-- The end of a message: what is left of it, a 1, zeros, and its length in bits. -/
def zerosFor (n : Nat) : Nat := if 64 < n + 9 then 119 - n else 55 - n
def padTail (r : List UInt8) (size : Nat) : List UInt8 := r ++ [128] ++ List.replicate (zerosFor r.length) 0 ++ wide (8 * size)
end Go.Proofs.YtnmpbjgccbnomaaGreat
/- The walks of digest.start and digest.text. -/
namespace Go.Proofs.YtnmpbjgccbnomaaGreat
open Go.RowKit
namespace Sha
def toL (s : St) : List UInt32 := [s.a, s.b, s.c, s.d, s.e, s.f, s.g, s.h]
theorem toL_len (s : St) : (toL s).length = 8 := rfl
def bytes4 (x : UInt32) : List UInt8 := [(ushr x 24).toUInt8, (ushr x 16).toUInt8, (ushr x 8).toUInt8, x.toUInt8]
def textTo (l : List UInt32) : Nat → List UInt8
  | 0 => []
  | k + 1 => textTo l k ++ bytes4 (at_ l k)
theorem textTo_len (l : List UInt32) (k : Nat) : (textTo l k).length = 4 * k := by
  induction k with
  | zero => rfl
  | succ k ih => simp [textTo, ih, bytes4]; omega
/-- The first block of a list of bytes. -/
def blk (l : List UInt8) (i : Nat) : UInt8 := (l.take 64).getD i 0
theorem blk_lt (l : List UInt8) (i : Nat) (h : i < 64) : blk l i = l.getD i 0 := by
  unfold blk; simp [h]
/-- q steps over blocks of bytes, one behind the other; and what is left of the bytes. -/
def eatG (f : St → List UInt8 → St) : Nat → List UInt8 → St → St × List UInt8
  | 0, l, s => (s, l)
  | q + 1, l, s => eatG f q (l.drop 64) (f s l)
theorem eatG_zero (f : St → List UInt8 → St) (l : List UInt8) (s : St) : eatG f 0 l s = (s, l) := rfl
theorem eatG_succ (f : St → List UInt8 → St) (q : Nat) (l : List UInt8) (s : St) : eatG f (q + 1) l s = eatG f q (l.drop 64) (f s l) := rfl
/-- A block of bytes mixed into a state. -/
def mixL (s : St) (l : List UInt8) : St := mixF s (blk l)
def eat (q : Nat) (l : List UInt8) (s : St) : St × List UInt8 := eatG mixL q l s
theorem eat_zero (l : List UInt8) (s : St) : eat 0 l s = (s, l) := eatG_zero _ _ _
theorem eat_succ (q : Nat) (l : List UInt8) (s : St) : eat (q + 1) l s = eat q (l.drop 64) (mixL s l) := eatG_succ _ _ _ _
end Sha
end Go.Proofs.YtnmpbjgccbnomaaGreat
/- The walk of digest.Sum. -/
namespace Go.Proofs.YtnmpbjgccbnomaaGreat
open Go.RowKit
end Go.Proofs.YtnmpbjgccbnomaaGreat
/- The two ways to end a message come to the same: plain lists, no walk. -/
namespace Go.Proofs.YtnmpbjgccbnomaaGreat
open Go.RowKit
/-- The whole message with its end. -/
def padAll (m : List UInt8) : List UInt8 := m ++ [128] ++ List.replicate (zerosFor (m.length % 64)) 0 ++ wide (8 * m.length)
/-- The digest of a list of n bytes, as digest.Sum makes it. -/
def shaL (m : List UInt8) (n : Nat) : List UInt8 := Sha.textTo (Sha.toL (Sha.eat (if 64 < n % 64 + 9 then 2 else 1) (padTail (Sha.eat (n / 64) m Sha.start).2 n) (Sha.eat (n / 64) m Sha.start).1).1) 8
namespace Sha
theorem mixL_append (s : St) (l t : List UInt8) (h : 64 ≤ l.length) : mixL s (l ++ t) = mixL s l := by
  unfold mixL
  have : blk (l ++ t) = blk l := by
    funext i; unfold blk; rw [List.take_append_of_le_length h]
  rw [this]
theorem eat_append (t : List UInt8) (p : Nat) : ∀ (q : Nat) (l : List UInt8) (s : St), 64 * q ≤ l.length → eat (q + p) (l ++ t) s = eat p ((eat q l s).2 ++ t) (eat q l s).1
  | 0, l, s, _ => by rw [eat_zero, Nat.zero_add]
  | q + 1, l, s, h => by
    rw [show q + 1 + p = (q + p) + 1 by omega, eat_succ, eat_succ, mixL_append _ _ _ (by omega), List.drop_append_of_le_length (by omega)]
    exact eat_append t p q _ _ (by rw [List.length_drop]; omega)
theorem eat_rest : ∀ (q : Nat) (l : List UInt8) (s : St), (eat q l s).2 = l.drop (64 * q)
  | 0, l, s => by rw [eat_zero]; rfl
  | q + 1, l, s => by
    rw [eat_succ, eat_rest q, List.drop_drop]; congr 1; omega
end Sha
theorem padAll_len (m : List UInt8) : (padAll m).length = 64 * (m.length / 64 + if 64 < m.length % 64 + 9 then 2 else 1) := by
  simp only [padAll, List.length_append, List.length_replicate, List.length_cons, List.length_nil, wide, wideTo_len, zerosFor]
  split <;> omega
theorem same_digest (m : List UInt8) (n : Nat) (hn : m.length = n) : Sha.textTo (Sha.toL (Sha.eat ((padAll m).length / 64) (padAll m) Sha.start).1) 8 = shaL m n := by
  subst hn
  have hq : (padAll m).length / 64 = m.length / 64 + if 64 < m.length % 64 + 9 then 2 else 1 := by
    rw [padAll_len, Nat.mul_div_cancel_left _ (by omega)]
  have hr : (Sha.eat (m.length / 64) m Sha.start).2.length = m.length % 64 := by rw [Sha.eat_rest, List.length_drop]; omega
  have hp : padAll m = m ++ ([128] ++ List.replicate (zerosFor (m.length % 64)) 0 ++ wide (8 * m.length)) := by simp [padAll]
  have ht : padTail (Sha.eat (m.length / 64) m Sha.start).2 m.length = (Sha.eat (m.length / 64) m Sha.start).2 ++ ([128] ++ List.replicate (zerosFor (m.length % 64)) 0 ++ wide (8 * m.length)) := by
    unfold padTail; rw [hr]; simp
  unfold shaL
  rw [hq, ht, ← Sha.eat_append _ _ _ _ _ (by omega), ← hp]
end Go.Proofs.YtnmpbjgccbnomaaGreat
/- The walks of statement.Digest, rightSeal, Sealed, Seal. -/
namespace Go.Proofs.YtnmpbjgccbnomaaGreat
open Go.RowKit
theorem BRow.sliceAt {w : World} {A : Option Addr} {n c : Nat} {us : List UInt8} (h : BRow w A n c us) : SliceAt w A n c us := by
  refine ⟨h.len, Row.cap h, fun e => Row.nil h e, fun ad hA h0 => ?_⟩
  obtain ⟨b, off, e, hc⟩ := Row.some_ h ad hA (by have := Row.cap h; omega)
  refine ⟨b, off, e, fun i hi => ?_⟩
  rw [hc i (by omega), bytesV_get _ _ (by rw [h.len]; exact hi)]
/-- The digest of a statement. -/
def digS (s : Stm) : ByteArray := strOf (shaL (bodyB s) (bodyB s).length)
theorem digS_size (s : Stm) : (digS s).size = 32 := by unfold digS; rw [strOf_size]; exact Sha.textTo_len _ _
theorem body_len {s : Stm} (h : Small s) : (bodyB s).length ≤ 2000000 := by
  have h1 := h.prev; have h2 := h.list; have h3 := h.all; have h4 := h.body
  unfold bodyB
  simp only [List.length_append, listB_len, textS_len, intsB_len, List.length_cons, List.length_nil]
  omega
/-- Whether the seal is right. -/
def sealedB (s : Stm) : Bool := decide (s.key = s.author) && decide (s.dig = digS s)
/-- A statement with the right seal. -/
def sealOf (s : Stm) : Stm := { s with key := s.author, dig := digS s }
end Go.Proofs.YtnmpbjgccbnomaaGreat
/- Rows of statements that have no lists, and the map of what was found. -/
namespace Go.Proofs.YtnmpbjgccbnomaaGreat
open Go.RowKit
def noStm : Stm := ⟨0, 0, ⟨#[]⟩, 0, 0, 0, 0, 0, [], [], ⟨#[]⟩, 0, ⟨#[]⟩⟩
def cellsS (s : Stm) : List Value := [.int .i64 s.author, .int .i64 s.number, .string s.prev, .int .i64 s.time, .int .i64 s.kind, .int .i64 s.a, .int .i64 s.b, .int .i64 s.c, .slice none 0 0, .slice none 0 0, .string s.body, .int .i64 s.key, .string s.dig]
def stmsC (l : List Stm) : List Value := l.flatMap cellsS
theorem stmsC_len (l : List Stm) : (stmsC l).length = l.length * 13 := by
  induction l with
  | nil => rfl
  | cons s l ih => simp only [stmsC, List.flatMap_cons, List.length_append, List.length_cons] at *; rw [ih]; show 13 + _ = _; omega
theorem stmsC_drop (l : List Stm) : ∀ k, (stmsC l).drop (k * 13) = stmsC (l.drop k) := by
  induction l with
  | nil => intro k; simp [stmsC]
  | cons s l ih =>
    intro k
    cases k with
    | zero => rw [Nat.zero_mul]; rfl
    | succ k =>
      rw [List.drop_succ_cons, ← ih k]
      simp only [stmsC, List.flatMap_cons, cellsS]
      rw [show (k + 1) * 13 = k * 13 + 13 by omega]
      rfl
/-- A slice that reads as statements without lists. -/
def SRow (w : World) (A : Option Addr) (n c : Nat) (l : List Stm) : Prop := Row w A n c 13 (stmsC l)
theorem SRow.len {w : World} {A : Option Addr} {n c : Nat} {l : List Stm} (h : SRow w A n c l) : l.length = n := by
  have := Row.len h; rw [stmsC_len] at this; omega
theorem SRow.later {w w' : World} {A : Option Addr} {n c : Nat} {l : List Stm} (h : SRow w A n c l) (hb : Later w w') : SRow w' A n c l := Row.later h hb
set_option maxHeartbeats 1000000 in
/-- The cells of statement k. -/
theorem SRow.cells {w : World} {A : Option Addr} {n c : Nat} {l : List Stm} (h : SRow w A n c l) (k : Nat) (hk : k < n) :
    ∃ b off, A = some ⟨b, off, none⟩ ∧ w.cell? ⟨b, off + k * 13, none⟩ = some (.int .i64 (l.getD k noStm).author) ∧ w.cell? ⟨b, off + k * 13 + 1, none⟩ = some (.int .i64 (l.getD k noStm).number) ∧ w.cell? ⟨b, off + k * 13 + 2, none⟩ = some (.string (l.getD k noStm).prev) ∧ w.cell? ⟨b, off + k * 13 + 3, none⟩ = some (.int .i64 (l.getD k noStm).time) ∧ w.cell? ⟨b, off + k * 13 + 4, none⟩ = some (.int .i64 (l.getD k noStm).kind) ∧ w.cell? ⟨b, off + k * 13 + 5, none⟩ = some (.int .i64 (l.getD k noStm).a) ∧ w.cell? ⟨b, off + k * 13 + 6, none⟩ = some (.int .i64 (l.getD k noStm).b) ∧ w.cell? ⟨b, off + k * 13 + 7, none⟩ = some (.int .i64 (l.getD k noStm).c) ∧ w.cell? ⟨b, off + k * 13 + 8, none⟩ = some (.slice none 0 0) ∧ w.cell? ⟨b, off + k * 13 + 9, none⟩ = some (.slice none 0 0) ∧ w.cell? ⟨b, off + k * 13 + 10, none⟩ = some (.string (l.getD k noStm).body) ∧ w.cell? ⟨b, off + k * 13 + 11, none⟩ = some (.int .i64 (l.getD k noStm).key) ∧ w.cell? ⟨b, off + k * 13 + 12, none⟩ = some (.string (l.getD k noStm).dig) := by
  obtain ⟨b, off, hA, hc⟩ := Row.form h (by omega)
  have hl := h.len
  have h0 : ∀ j, (stmsC l)[k * 13 + j]? = (stmsC (l.drop k))[j]? := fun j => by rw [← stmsC_drop, List.getElem?_drop]
  have h1 : l.drop k = l.getD k noStm :: l.drop (k + 1) := by
    rw [List.drop_eq_getElem_cons (by omega)]; simp [show k < l.length by omega]
  have h2 : ∀ j, j < 13 → w.cell? ⟨b, off + (k * 13 + j), none⟩ = (cellsS (l.getD k noStm))[j]? := fun j hj => by
    rw [hc _ (by omega), h0, h1]
    show (cellsS (l.getD k noStm) ++ stmsC (l.drop (k + 1)))[j]? = _
    rw [List.getElem?_append_left (by show j < 13; exact hj)]
  exact ⟨b, off, hA, h2 0 (by decide), by rw [Nat.add_assoc]; exact h2 1 (by decide), by rw [Nat.add_assoc]; exact h2 2 (by decide), by rw [Nat.add_assoc]; exact h2 3 (by decide), by rw [Nat.add_assoc]; exact h2 4 (by decide), by rw [Nat.add_assoc]; exact h2 5 (by decide), by rw [Nat.add_assoc]; exact h2 6 (by decide), by rw [Nat.add_assoc]; exact h2 7 (by decide), by rw [Nat.add_assoc]; exact h2 8 (by decide), by rw [Nat.add_assoc]; exact h2 9 (by decide), by rw [Nat.add_assoc]; exact h2 10 (by decide), by rw [Nat.add_assoc]; exact h2 11 (by decide), by rw [Nat.add_assoc]; exact h2 12 (by decide)⟩
/-- Statements of one author, well formed and sealed, no two of one digest. -/
structure Good (au : Int) (l : List Stm) : Prop where
  author : ∀ s ∈ l, s.author = au
  check : ∀ s ∈ l, checkV s = 0
  sealed : ∀ s ∈ l, sealedB s = true
  bare : ∀ s ∈ l, s.list = [] ∧ s.pins = [] ∧ Small s ∧ 0 ≤ s.number ∧ s.number < 200
  nodup : (l.map (·.dig)).Nodup
end Go.Proofs.YtnmpbjgccbnomaaGreat
/- A region that draws its order, where two operations that may make memory come up together: both orders are walked. Plain facts over any program. -/
namespace Go.Proofs.YtnmpbjgccbnomaaGreat
open Go.RowKit Go
section
variable {P : Program} {md : Region.Mode} {F : World → World → Prop}
end
end Go.Proofs.YtnmpbjgccbnomaaGreat
