import Derived.Test.YtnmpbjgccbnomaaGreatPackAR
import Derived.Test.YtnmpbjgccbnomaaGreatPackAC
import Derived.Test.YtnmpbjgccbnomaaGreatPackAB
import Derived.Test.YtnmpbjgccbnomaaGreatPackAD
/- The walk of the dice's Statement. -/
namespace Go.Proofs.YtnmpbjgccbnomaaGreat
open Go.RowKit
def StmOutT (author time : Int) (L D : Nat) (t : List Int) (w : World) (e : Ending) (w' : World) : Prop :=
  ∃ (s : Stm) (A : Option Addr) (n c : Nat) (B : Option Addr) (m k : Nat), e = .returned (stmV s A n c B m k) ∧ IRow w' A n c s.list ∧ PRow w' B m k s.pins ∧ New w w' A ∧ New w w' B ∧
    s.list.length ≤ 2 ∧ s.pins.length ≤ 1 ∧ (pinsBs s.pins).length ≤ 56 ∧ s.body.size ≤ 5 ∧ s.prev.size = 0 ∧ s.dig.size = 0 ∧ Gave L D t w w' ∧ s.author = author ∧ s.time = time ∧ s.number = 0
def kinds8 : List Int := [1, 1, 1, 2, 10, 31, 1, 12]
/-- In the midst of the call: what its two blocks hold. -/
structure Mid (L D : Nat) (t : List Int) (w : World) (S : Nat) (cs : Array Value) (x : World) : Prop where
  but : But D w x
  dice : ∃ k, DiceAt x L D t k
  res : x.heap[w.heap.size]? = some (.cells #[.int .i64 0, .int .i64 0, .string ⟨#[]⟩, .int .i64 0, .int .i64 0, .int .i64 0, .int .i64 0, .int .i64 0, .slice none 0 0, .slice none 0 0, .string ⟨#[]⟩, .int .i64 0, .string ⟨#[]⟩] 48 (0, 0))
  cur : x.heap[S]? = some (.cells cs 48 (0, 0))
  lt : S < x.heap.size
  low : w.heap.size < S
  dlt : D < w.heap.size
theorem Mid.gave {L D : Nat} {t : List Int} {w x y : World} {S : Nat} {cs : Array Value} (h : Mid L D t w S cs x) (g : Gave L D t x y) : Mid L D t w S cs y :=
  have h1 := h.low; have h2 := h.lt; have h3 := h.dlt
  ⟨h.but.trans g.2, g.1, (g.2.block _ (by omega) (by omega)).trans h.res, (g.2.block _ h2 (by omega)).trans h.cur, Nat.lt_of_lt_of_le h2 g.2.size, h1, h3⟩
theorem Mid.later {L D : Nat} {t : List Int} {w x y : World} {S : Nat} {cs : Array Value} (h : Mid L D t w S cs x) (hb : Below x.heap.size x y) : Mid L D t w S cs y := by
  obtain ⟨k, hk⟩ := h.dice
  exact h.gave ⟨⟨k, hk.later hb⟩, But.of hb⟩
theorem Mid.set {L D : Nat} {t : List Int} {w x : World} {S : Nat} {cs : Array Value} (h : Mid L D t w S cs x) (i : Nat) (v : Value) : Mid L D t w S (cs.setIfInBounds i v) (x.setCell ⟨S, i, none⟩ v) := by
  have h1 := h.low; have h2 := h.lt; have h3 := h.dlt
  have hb : Below S x (x.setCell ⟨S, i, none⟩ v) := Below.setCell (p := ⟨S, i, none⟩) (Below.refl _ _) (Nat.le_refl _) _
  obtain ⟨k, hk⟩ := h.dice
  exact ⟨h.but.grow (hb.mono (by omega)), ⟨k, hk.below hb (by omega)⟩, (hb.block _ h1).trans h.res, heap_setCell_same _ _ _ _ _ _ h.cur, Nat.lt_of_lt_of_le h2 hb.size, h1, h3⟩
theorem Mid.gone {L D : Nat} {t : List Int} {w x : World} {S : Nat} {cs : Array Value} (h : Mid L D t w S cs x) (cs' : Array Value) : Gave L D t w (x.setRow w.heap.size cs') := by
  have hb : Below w.heap.size x (x.setRow w.heap.size cs') := below_setRow (Below.refl _ _) (Nat.le_refl _) _
  obtain ⟨k, hk⟩ := h.dice
  exact ⟨⟨k, hk.below hb h.dlt⟩, h.but.grow hb⟩
/-- The walk stops before an operation, in any world of which something is known. -/
theorem stop_atD {P : Program} {ops : Array Oper} {rest : List Oper} {o : Oper} {a : Act} {w : World} {Q : Exit → Act → World → Prop} (op : Op) (_ho : o.op = op) (C : World → Prop) (hC : C w) (h : Hid (∀ w', C w' → wpList P ops Q (o :: rest) a w')) : wpList P ops Q (o :: rest) a w := h.out w hC
theorem New.none0 (w w' : World) : New w w' none := fun ad h => by cases h
theorem Mid.belowS {L D : Nat} {t : List Int} {w x y : World} {S : Nat} {cs : Array Value} (h : Mid L D t w S cs x) (hb : Below (S + 1) x y) : Mid L D t w S cs y := by
  have h1 := h.low; have h2 := h.lt; have h3 := h.dlt
  obtain ⟨k, hk⟩ := h.dice
  exact ⟨h.but.grow (hb.mono (by omega)), ⟨k, hk.below hb (by omega)⟩, (hb.block _ (by omega)).trans h.res, (hb.block _ (by omega)).trans h.cur, Nat.lt_of_lt_of_le h2 hb.size, h1, h3⟩
/-- A slice's block lies above another one. -/
def Up (S : Nat) (x : World) (A : Option Addr) : Prop := ∀ ad, A = some ad → S < ad.block ∧ ad.block < x.heap.size
theorem Up.none0 (S : Nat) (x : World) : Up S x none := fun ad h => by cases h
theorem Up.mono {S : Nat} {x y : World} {A : Option Addr} (h : Up S x A) (hs : x.heap.size ≤ y.heap.size) : Up S y A := fun ad e => ⟨(h ad e).1, Nat.lt_of_lt_of_le (h ad e).2 hs⟩
/-- In the midst of the call, with the rows of the statement. -/
structure MidR (L D : Nat) (t : List Int) (w : World) (S : Nat) (cs : Array Value) (A : Option Addr) (n c : Nat) (l : List Int) (B : Option Addr) (m k : Nat) (ps : List PinD) (x : World) : Prop where
  mid : Mid L D t w S cs x
  il : IRow x A n c l
  pl : PRow x B m k ps
  ua : Up S x A
  ub : Up S x B
section
variable {L D : Nat} {t : List Int} {w x y : World} {S : Nat} {cs : Array Value} {A : Option Addr} {n c : Nat} {l : List Int} {B : Option Addr} {m k : Nat} {ps : List PinD}
theorem MidR.gave (h : MidR L D t w S cs A n c l B m k ps x) (g : Gave L D t x y) : MidR L D t w S cs A n c l B m k ps y :=
  have hd : D ≤ S := Nat.le_of_lt (Nat.lt_trans h.mid.dlt h.mid.low)
  ⟨h.mid.gave g, but_up g.2 h.il (fun ad e => (h.ua ad e).1) hd, but_up g.2 h.pl (fun ad e => (h.ub ad e).1) hd, h.ua.mono g.2.size, h.ub.mono g.2.size⟩
theorem MidR.later (h : MidR L D t w S cs A n c l B m k ps x) (hb : Below x.heap.size x y) : MidR L D t w S cs A n c l B m k ps y :=
  ⟨h.mid.later hb, h.il.later hb, h.pl.later hb, h.ua.mono hb.size, h.ub.mono hb.size⟩
theorem MidR.set (h : MidR L D t w S cs A n c l B m k ps x) (i : Nat) (v : Value) : MidR L D t w S (cs.setIfInBounds i v) A n c l B m k ps (x.setCell ⟨S, i, none⟩ v) := by
  have hb : Below S x (x.setCell ⟨S, i, none⟩ v) := Below.setCell (p := ⟨S, i, none⟩) (Below.refl _ _) (Nat.le_refl _) _
  exact ⟨h.mid.set i v, set_up h.il (fun ad e => (h.ua ad e).1) i v, set_up h.pl (fun ad e => (h.ub ad e).1) i v, h.ua.mono hb.size, h.ub.mono hb.size⟩
theorem MidR.pins (h : MidR L D t w S cs A n c l B m k ps x) {B2 : Option Addr} {m2 k2 : Nat} {ps2 : List PinD} (hp : PRow x B2 m2 k2 ps2) (hu : Up S x B2) : MidR L D t w S cs A n c l B2 m2 k2 ps2 x :=
  ⟨h.mid, h.il, hp, h.ua, hu⟩
theorem MidR.gone (h : MidR L D t w S cs A n c l B m k ps x) (cs' : Array Value) : IRow (x.setRow w.heap.size cs') A n c l ∧ PRow (x.setRow w.heap.size cs') B m k ps ∧ New w (x.setRow w.heap.size cs') A ∧ New w (x.setRow w.heap.size cs') B ∧ Gave L D t w (x.setRow w.heap.size cs') := by
  have h1 := h.mid.low
  have hs : (x.setRow w.heap.size cs').heap.size = x.heap.size := by simp [World.setRow]
  refine ⟨Row.keep h.il fun ad e _ _ => setRow_other _ _ _ _ (by have := (h.ua ad e).1; omega), Row.keep h.pl fun ad e _ _ => setRow_other _ _ _ _ (by have := (h.ub ad e).1; omega), fun ad e => ?_, fun ad e => ?_, h.mid.gone cs'⟩
  · have := h.ua ad e; exact ⟨by omega, by rw [hs]; exact this.2⟩
  · have := h.ub ad e; exact ⟨by omega, by rw [hs]; exact this.2⟩
theorem up_own {e : TypeId} {sz : Nat} {xs : List Value} (h : x.ownsRow (S + 1) e sz (.slice A n c) n xs) : Up S x A := by
  intro ad e1
  subst e1
  have := World.ownsRow.lt h ad.block rfl
  exact ⟨by omega, this.2⟩
end
theorem bytes_g (L D : Nat) (t : List Int) (m : Int) (w : World) (h : ∃ k, DiceAt w L D t k) (h0 : 0 ≤ m) (hm : m ≤ 1000) :
    Calls Tryz.prog 95 #[.pointer (some ⟨D, 0, none⟩), .int .i64 m] w fun e w' => ∃ A n c us, e = .returned (.slice A n c) ∧ BRow w' A n c us ∧ (us.length : Int) ≤ m ∧ Gave L D t w w' := by
  obtain ⟨k, h⟩ := h
  refine (bytes_any L D t k m w h h0 (by omega)).mono ?_
  rintro e w' ⟨v, rfl, ho, hd, hb⟩
  obtain ⟨A, c, rfl, hr⟩ := Row.of_own ho
  refine ⟨A, _, c, _, rfl, hr, ?_, ⟨_, hd⟩, hb⟩
  have := diceV_bd t k (m + 1) (by omega)
  unfold diceBytes
  rw [diceBs_len]
  omega
set_option maxRecDepth 100000 in
set_option maxHeartbeats 2000000 in
theorem dstm_t (L D : Nat) (t : List Int) (author time : Int) (w : World) (h : ∃ k, DiceAt w L D t k) (ha : 0 ≤ author ∧ author ≤ 1000) (ht : 0 ≤ time ∧ time ≤ 1000) :
    Calls Tryz.prog 73 #[.pointer (some ⟨D, 0, none⟩), .int .i64 author, .int .i64 time] w (StmOutT author time L D t w) := by
  have hD : D < w.heap.size := by obtain ⟨k, h⟩ := h; exact h.lt
  have HB := Lib.hid ((one_new w (.cells #[.int .i64 0, .int .i64 0, .string ⟨#[]⟩, .int .i64 0, .int .i64 0, .int .i64 0, .int .i64 0, .int .i64 0, .slice none 0 0, .slice none 0 0, .string ⟨#[]⟩, .int .i64 0, .string ⟨#[]⟩] 48)).trans ((one_new (w.alloc (.cells #[.int .i64 0, .int .i64 0, .string ⟨#[]⟩, .int .i64 0, .int .i64 0, .int .i64 0, .int .i64 0, .int .i64 0, .slice none 0 0, .slice none 0 0, .string ⟨#[]⟩, .int .i64 0, .string ⟨#[]⟩] 48)) (.cells (intsV kinds8).toArray 3)).mono (by simp)))
  have HQ := Lib.hid (((one_new (w.alloc (.cells #[.int .i64 0, .int .i64 0, .string ⟨#[]⟩, .int .i64 0, .int .i64 0, .int .i64 0, .int .i64 0, .int .i64 0, .slice none 0 0, .slice none 0 0, .string ⟨#[]⟩, .int .i64 0, .string ⟨#[]⟩] 48)) (.cells (intsV kinds8).toArray 3)).block w.heap.size (by simp)).trans (heap_alloc_new w (.cells #[.int .i64 0, .int .i64 0, .string ⟨#[]⟩, .int .i64 0, .int .i64 0, .int .i64 0, .int .i64 0, .int .i64 0, .slice none 0 0, .slice none 0 0, .string ⟨#[]⟩, .int .i64 0, .string ⟨#[]⟩] 48)))
  have HK := Lib.hid (heap_alloc_new (w.alloc (.cells #[.int .i64 0, .int .i64 0, .string ⟨#[]⟩, .int .i64 0, .int .i64 0, .int .i64 0, .int .i64 0, .int .i64 0, .slice none 0 0, .slice none 0 0, .string ⟨#[]⟩, .int .i64 0, .string ⟨#[]⟩] 48)) (.cells (intsV kinds8).toArray 3))
  have HS : Hid (w.heap.size + 1 < ((w.alloc (.cells #[.int .i64 0, .int .i64 0, .string ⟨#[]⟩, .int .i64 0, .int .i64 0, .int .i64 0, .int .i64 0, .int .i64 0, .slice none 0 0, .slice none 0 0, .string ⟨#[]⟩, .int .i64 0, .string ⟨#[]⟩] 48)).alloc (.cells (intsV kinds8).toArray 3)).heap.size) := Lib.hid (by simp)
  have HH : Hid (∃ k, DiceAt ((w.alloc (.cells #[.int .i64 0, .int .i64 0, .string ⟨#[]⟩, .int .i64 0, .int .i64 0, .int .i64 0, .int .i64 0, .int .i64 0, .slice none 0 0, .slice none 0 0, .string ⟨#[]⟩, .int .i64 0, .string ⟨#[]⟩] 48)).alloc (.cells (intsV kinds8).toArray 3)) L D t k) := by obtain ⟨k, h⟩ := h; exact ⟨k, h.later HB.out⟩
  clear h
  go_enter Tryz.func73, Tryz.ntmps73
  go_wp2_with fail
  have HK2 : Hid (Row ((w.alloc (.cells #[.int .i64 0, .int .i64 0, .string ⟨#[]⟩, .int .i64 0, .int .i64 0, .int .i64 0, .int .i64 0, .int .i64 0, .slice none 0 0, .slice none 0 0, .string ⟨#[]⟩, .int .i64 0, .string ⟨#[]⟩] 48)).alloc (.cells (intsV kinds8).toArray 3)) (some ⟨w.heap.size + 1, 0, none⟩) 8 8 1 (intsV kinds8)) := Lib.hid (Row.of_block (cs := (intsV kinds8).toArray) (by have := HK.out; rw [show (w.alloc (.cells #[.int .i64 0, .int .i64 0, .string ⟨#[]⟩, .int .i64 0, .int .i64 0, .int .i64 0, .int .i64 0, .int .i64 0, .slice none 0 0, .slice none 0 0, .string ⟨#[]⟩, .int .i64 0, .string ⟨#[]⟩] 48)).heap.size = w.heap.size + 1 by simp] at this; exact this) rfl)
  clear HK
  refine (of_g L D t (some ⟨w.heap.size + 1, 0, none⟩) 8 8 kinds8 ((w.alloc (.cells #[.int .i64 0, .int .i64 0, .string ⟨#[]⟩, .int .i64 0, .int .i64 0, .int .i64 0, .int .i64 0, .int .i64 0, .slice none 0 0, .slice none 0 0, .string ⟨#[]⟩, .int .i64 0, .string ⟨#[]⟩] 48)).alloc (.cells (intsV kinds8).toArray 3)) HH.out HK2.out (fun ad e => by injection e with e; subst e; show w.heap.size + 1 ≠ D; omega) (by omega) (by omega)).mono ?_
  clear HK2 HH
  generalize (w.alloc (.cells #[.int .i64 0, .int .i64 0, .string ⟨#[]⟩, .int .i64 0, .int .i64 0, .int .i64 0, .int .i64 0, .int .i64 0, .slice none 0 0, .slice none 0 0, .string ⟨#[]⟩, .int .i64 0, .string ⟨#[]⟩] 48)).alloc (.cells (intsV kinds8).toArray 3) = y at HB HQ HS ⊢
  rintro e w1 ⟨kd, rfl, hkd, hg⟩
  have hsz := HS.out
  have HM : Hid (Mid L D t w w1.heap.size #[.int .i64 author, .int .i64 0, .string ⟨#[]⟩, .int .i64 time, .int .i64 kd, .int .i64 0, .int .i64 0, .int .i64 0, .slice none 0 0, .slice none 0 0, .string ⟨#[]⟩, .int .i64 0, .string ⟨#[]⟩] (w1.alloc (.cells #[.int .i64 author, .int .i64 0, .string ⟨#[]⟩, .int .i64 time, .int .i64 kd, .int .i64 0, .int .i64 0, .int .i64 0, .slice none 0 0, .slice none 0 0, .string ⟨#[]⟩, .int .i64 0, .string ⟨#[]⟩] 48))) := by
    have h1 := hg.2.size
    have hn := one_new w1 (.cells #[.int .i64 author, .int .i64 0, .string ⟨#[]⟩, .int .i64 time, .int .i64 kd, .int .i64 0, .int .i64 0, .int .i64 0, .slice none 0 0, .slice none 0 0, .string ⟨#[]⟩, .int .i64 0, .string ⟨#[]⟩] 48)
    obtain ⟨k, hk⟩ := hg.1
    exact Lib.hid ⟨((But.of HB.out).trans hg.2).trans (But.of hn), ⟨k, hk.later hn⟩, (hn.block _ (by omega)).trans ((hg.2.block _ (by omega) (by omega)).trans HQ.out), heap_alloc_new _ _, by simp, by omega, hD⟩
  clear hg HB HQ HS hsz
  have hk3 : kd = 1 ∨ kd = 2 ∨ (kd ≠ 1 ∧ kd ≠ 2) := by omega
  have hc4 : (w1.alloc (.cells #[.int .i64 author, .int .i64 0, .string ⟨#[]⟩, .int .i64 time, .int .i64 kd, .int .i64 0, .int .i64 0, .int .i64 0, .slice none 0 0, .slice none 0 0, .string ⟨#[]⟩, .int .i64 0, .string ⟨#[]⟩] 48)).cell? ⟨w1.heap.size, 4, none⟩ = some (.int .i64 kd) := by rw [cell_of_row _ _ _ _ _ _ HM.out.cur]; rfl
  rcases hk3 with hk | hk | hk
  · subst hk
    go_wp2_with fail
    clear hc4
    refine (next_g L D t 5 _ HM.out.dice (by omega) (by omega)).mono ?_
    rintro e w2 ⟨p, rfl, hp0, hpm, hg⟩
    replace HM := Lib.hid (HM.out.gave hg); clear hg
    go_wp2_with fail
    refine (mod_any (author + 1 + p) 6 _ (by omega) (by omega)).mono ?_
    rintro e w3 ⟨rfl, rfl⟩
    have hmd := modF_bd (author + 1 + p) 6 (by omega)
    generalize modF (author + 1 + p) 6 = aa at hmd ⊢
    go_wp2_with fail
    refine (next_g L D t 3 _ HM.out.dice (by omega) (by omega)).mono ?_
    rintro e w3 ⟨q, rfl, hq0, hqm, hg⟩
    replace HM := Lib.hid (HM.out.gave hg); clear hg
    go_wp2_with fail
    have hlow : w.heap.size < w3.heap.size := Nat.lt_trans HM.out.low HM.out.lt
    have HR : Hid (Row (w3.alloc (.cells (intsV [50, 5, 0, 200]).toArray 3)) (some ⟨w3.heap.size, 0, none⟩) 4 4 1 (intsV [50, 5, 0, 200])) := Lib.hid (Row.of_block (cs := (intsV [50, 5, 0, 200]).toArray) (heap_alloc_new _ _) rfl)
    replace HM := Lib.hid (HM.out.later (one_new w3 (.cells (intsV [50, 5, 0, 200]).toArray 3)))
    refine (of_g L D t (some ⟨w3.heap.size, 0, none⟩) 4 4 [50, 5, 0, 200] (w3.alloc (.cells (intsV [50, 5, 0, 200]).toArray 3)) HM.out.dice HR.out (fun ad e => by injection e with e; subst e; show w3.heap.size ≠ D; omega) (by omega) (by omega)).mono ?_
    clear HR
    generalize (w3.alloc (.cells (intsV [50, 5, 0, 200]).toArray 3)) = z at HM ⊢
    rintro e w4 ⟨r, rfl, hin, hg⟩
    replace HM := Lib.hid (HM.out.gave hg); clear hg
    have hr : 0 ≤ r ∧ r ≤ 200 := by simp at hin; omega
    clear hin hlow
    have hf5 : w4.frozen? ⟨w1.heap.size, 5, none⟩ = false := frozen_of_row _ _ _ _ _ HM.out.cur
    have hc5 : w4.cell? ⟨w1.heap.size, 5, none⟩ = some (.int .i64 0) := by rw [cell_of_row _ _ _ _ _ _ HM.out.cur]; rfl
    have hf6 : w4.frozen? ⟨w1.heap.size, 6, none⟩ = false := frozen_of_row _ _ _ _ _ HM.out.cur
    have hc6 : w4.cell? ⟨w1.heap.size, 6, none⟩ = some (.int .i64 0) := by rw [cell_of_row _ _ _ _ _ _ HM.out.cur]; rfl
    have hf7 : w4.frozen? ⟨w1.heap.size, 7, none⟩ = false := frozen_of_row _ _ _ _ _ HM.out.cur
    have hc7 : w4.cell? ⟨w1.heap.size, 7, none⟩ = some (.int .i64 0) := by rw [cell_of_row _ _ _ _ _ _ HM.out.cur]; rfl
    have HF : Hid (Mid L D t w w1.heap.size #[.int .i64 author, .int .i64 0, .string ⟨#[]⟩, .int .i64 time, .int .i64 1, .int .i64 aa, .int .i64 (1 + q), .int .i64 (time + r), .slice none 0 0, .slice none 0 0, .string ⟨#[]⟩, .int .i64 0, .string ⟨#[]⟩] _) := Lib.hid (((HM.out.set 5 (.int .i64 aa)).set 6 (.int .i64 (1 + q))).set 7 (.int .i64 (time + r)))
    have HG : Hid (Mid L D t w w1.heap.size #[.int .i64 author, .int .i64 0, .string ⟨#[]⟩, .int .i64 time, .int .i64 1, .int .i64 (author + 1), .int .i64 (1 + q), .int .i64 (time + r), .slice none 0 0, .slice none 0 0, .string ⟨#[]⟩, .int .i64 0, .string ⟨#[]⟩] _) := Lib.hid (HF.out.set 5 (.int .i64 (author + 1)))
    go_wp2_with (first | refine stop_atD (.load 48 (.tmp 7)) rfl (Mid L D t w w1.heap.size #[.int .i64 author, .int .i64 0, .string ⟨#[]⟩, .int .i64 time, .int .i64 1, .int .i64 aa, .int .i64 (1 + q), .int .i64 (time + r), .slice none 0 0, .slice none 0 0, .string ⟨#[]⟩, .int .i64 0, .string ⟨#[]⟩]) HF.out ?_ | refine stop_atD (.load 48 (.tmp 7)) rfl (Mid L D t w w1.heap.size #[.int .i64 author, .int .i64 0, .string ⟨#[]⟩, .int .i64 time, .int .i64 1, .int .i64 (author + 1), .int .i64 (1 + q), .int .i64 (time + r), .slice none 0 0, .slice none 0 0, .string ⟨#[]⟩, .int .i64 0, .string ⟨#[]⟩]) HG.out ?_)
    · refine Lib.hid ?_
      intro w9 hM9
      have HM9 := Lib.hid hM9; clear hM9
      go_wp2_with (first
        | refine wpList_load_row rfl 48 (.tmp 7) rfl w1.heap.size rfl 48 #[.int .i64 author, .int .i64 0, .string ⟨#[]⟩, .int .i64 time, .int .i64 1, .int .i64 (author + 1), .int .i64 (1 + q), .int .i64 (time + r), .slice none 0 0, .slice none 0 0, .string ⟨#[]⟩, .int .i64 0, .string ⟨#[]⟩] (0, 0) _ HM9.out.cur Tryz.underlying48 rfl (by kernel_rfl) ?_
        | refine wpList_store_row rfl 48 (.tmp 6) (.tmp 88) rfl w.heap.size #[.int .i64 author, .int .i64 0, .string ⟨#[]⟩, .int .i64 time, .int .i64 1, .int .i64 (author + 1), .int .i64 (1 + q), .int .i64 (time + r), .slice none 0 0, .slice none 0 0, .string ⟨#[]⟩, .int .i64 0, .string ⟨#[]⟩] rfl rfl 48 _ HM9.out.res (by kernel_rfl) rfl (by simp [Value.oneCell']) ?_)
      refine bodyPost_ret (v := .agg #[.int .i64 author, .int .i64 0, .string ⟨#[]⟩, .int .i64 time, .int .i64 1, .int .i64 (author + 1), .int .i64 (1 + q), .int .i64 (time + r), .slice none 0 0, .slice none 0 0, .string ⟨#[]⟩, .int .i64 0, .string ⟨#[]⟩]) (results_cell_row rfl _ _ w.heap.size 48 #[.int .i64 author, .int .i64 0, .string ⟨#[]⟩, .int .i64 time, .int .i64 1, .int .i64 (author + 1), .int .i64 (1 + q), .int .i64 (time + r), .slice none 0 0, .slice none 0 0, .string ⟨#[]⟩, .int .i64 0, .string ⟨#[]⟩] (0, 0) _ rfl (setRow_heap _ _ _ _ _ _ HM9.out.res) Tryz.underlying48 rfl (by kernel_rfl)) rfl
        ⟨⟨author, 0, ⟨#[]⟩, time, 1, (author + 1), (1 + q), (time + r), [], [], ⟨#[]⟩, 0, ⟨#[]⟩⟩, none, 0, 0, none, 0, 0, rfl, Row.nilRow _ _, Row.nilRow _ _, New.none0 _ _, New.none0 _ _, Nat.zero_le _, Nat.zero_le _, Nat.zero_le _, Nat.zero_le _, rfl, rfl, HM9.out.gone _, rfl, rfl, rfl⟩
    · refine Lib.hid ?_
      intro w9 hM9
      have HM9 := Lib.hid hM9; clear hM9
      go_wp2_with (first
        | refine wpList_load_row rfl 48 (.tmp 7) rfl w1.heap.size rfl 48 #[.int .i64 author, .int .i64 0, .string ⟨#[]⟩, .int .i64 time, .int .i64 1, .int .i64 aa, .int .i64 (1 + q), .int .i64 (time + r), .slice none 0 0, .slice none 0 0, .string ⟨#[]⟩, .int .i64 0, .string ⟨#[]⟩] (0, 0) _ HM9.out.cur Tryz.underlying48 rfl (by kernel_rfl) ?_
        | refine wpList_store_row rfl 48 (.tmp 6) (.tmp 88) rfl w.heap.size #[.int .i64 author, .int .i64 0, .string ⟨#[]⟩, .int .i64 time, .int .i64 1, .int .i64 aa, .int .i64 (1 + q), .int .i64 (time + r), .slice none 0 0, .slice none 0 0, .string ⟨#[]⟩, .int .i64 0, .string ⟨#[]⟩] rfl rfl 48 _ HM9.out.res (by kernel_rfl) rfl (by simp [Value.oneCell']) ?_)
      refine bodyPost_ret (v := .agg #[.int .i64 author, .int .i64 0, .string ⟨#[]⟩, .int .i64 time, .int .i64 1, .int .i64 aa, .int .i64 (1 + q), .int .i64 (time + r), .slice none 0 0, .slice none 0 0, .string ⟨#[]⟩, .int .i64 0, .string ⟨#[]⟩]) (results_cell_row rfl _ _ w.heap.size 48 #[.int .i64 author, .int .i64 0, .string ⟨#[]⟩, .int .i64 time, .int .i64 1, .int .i64 aa, .int .i64 (1 + q), .int .i64 (time + r), .slice none 0 0, .slice none 0 0, .string ⟨#[]⟩, .int .i64 0, .string ⟨#[]⟩] (0, 0) _ rfl (setRow_heap _ _ _ _ _ _ HM9.out.res) Tryz.underlying48 rfl (by kernel_rfl)) rfl
        ⟨⟨author, 0, ⟨#[]⟩, time, 1, aa, (1 + q), (time + r), [], [], ⟨#[]⟩, 0, ⟨#[]⟩⟩, none, 0, 0, none, 0, 0, rfl, Row.nilRow _ _, Row.nilRow _ _, New.none0 _ _, New.none0 _ _, Nat.zero_le _, Nat.zero_le _, Nat.zero_le _, Nat.zero_le _, rfl, rfl, HM9.out.gone _, rfl, rfl, rfl⟩
  · subst hk
    go_wp2_with fail
    clear hc4
    refine (next_g L D t 4 _ HM.out.dice (by omega) (by omega)).mono ?_
    rintro e w2 ⟨p, rfl, hp0, hpm, hg⟩
    replace HM := Lib.hid (HM.out.gave hg); clear hg
    have hf5 : w2.frozen? ⟨w1.heap.size, 5, none⟩ = false := frozen_of_row _ _ _ _ _ HM.out.cur
    have hc5 : w2.cell? ⟨w1.heap.size, 5, none⟩ = some (.int .i64 0) := by rw [cell_of_row _ _ _ _ _ _ HM.out.cur]; rfl
    have HF : Hid (Mid L D t w w1.heap.size #[.int .i64 author, .int .i64 0, .string ⟨#[]⟩, .int .i64 time, .int .i64 2, .int .i64 p, .int .i64 0, .int .i64 0, .slice none 0 0, .slice none 0 0, .string ⟨#[]⟩, .int .i64 0, .string ⟨#[]⟩] _) := Lib.hid (HM.out.set 5 (.int .i64 p))
    go_wp2_with (first | refine stop_atD (.load 48 (.tmp 7)) rfl (Mid L D t w w1.heap.size #[.int .i64 author, .int .i64 0, .string ⟨#[]⟩, .int .i64 time, .int .i64 2, .int .i64 p, .int .i64 0, .int .i64 0, .slice none 0 0, .slice none 0 0, .string ⟨#[]⟩, .int .i64 0, .string ⟨#[]⟩]) HF.out ?_)
    refine Lib.hid ?_
    intro w9 hM9
    have HM9 := Lib.hid hM9; clear hM9
    go_wp2_with (first
      | refine wpList_load_row rfl 48 (.tmp 7) rfl w1.heap.size rfl 48 #[.int .i64 author, .int .i64 0, .string ⟨#[]⟩, .int .i64 time, .int .i64 2, .int .i64 p, .int .i64 0, .int .i64 0, .slice none 0 0, .slice none 0 0, .string ⟨#[]⟩, .int .i64 0, .string ⟨#[]⟩] (0, 0) _ HM9.out.cur Tryz.underlying48 rfl (by kernel_rfl) ?_
      | refine wpList_store_row rfl 48 (.tmp 6) (.tmp 88) rfl w.heap.size #[.int .i64 author, .int .i64 0, .string ⟨#[]⟩, .int .i64 time, .int .i64 2, .int .i64 p, .int .i64 0, .int .i64 0, .slice none 0 0, .slice none 0 0, .string ⟨#[]⟩, .int .i64 0, .string ⟨#[]⟩] rfl rfl 48 _ HM9.out.res (by kernel_rfl) rfl (by simp [Value.oneCell']) ?_)
    refine bodyPost_ret (v := .agg #[.int .i64 author, .int .i64 0, .string ⟨#[]⟩, .int .i64 time, .int .i64 2, .int .i64 p, .int .i64 0, .int .i64 0, .slice none 0 0, .slice none 0 0, .string ⟨#[]⟩, .int .i64 0, .string ⟨#[]⟩]) (results_cell_row rfl _ _ w.heap.size 48 #[.int .i64 author, .int .i64 0, .string ⟨#[]⟩, .int .i64 time, .int .i64 2, .int .i64 p, .int .i64 0, .int .i64 0, .slice none 0 0, .slice none 0 0, .string ⟨#[]⟩, .int .i64 0, .string ⟨#[]⟩] (0, 0) _ rfl (setRow_heap _ _ _ _ _ _ HM9.out.res) Tryz.underlying48 rfl (by kernel_rfl)) rfl
      ⟨⟨author, 0, ⟨#[]⟩, time, 2, p, 0, 0, [], [], ⟨#[]⟩, 0, ⟨#[]⟩⟩, none, 0, 0, none, 0, 0, rfl, Row.nilRow _ _, Row.nilRow _ _, New.none0 _ _, New.none0 _ _, Nat.zero_le _, Nat.zero_le _, Nat.zero_le _, Nat.zero_le _, rfl, rfl, HM9.out.gone _, rfl, rfl, rfl⟩
  · have hb1 : (kd == 1) = false := by simpa using hk.1
    have hb2 : (kd == 2) = false := by simpa using hk.2
    clear hk
    go_wp2_with fail
    clear hc4 hb1 hb2
    refine (next_g L D t 9 _ HM.out.dice (by omega) (by omega)).mono ?_
    rintro e w2 ⟨p, rfl, hp0, hpm, hg⟩
    replace HM := Lib.hid (HM.out.gave hg); clear hg
    go_wp2_with fail
    have hlow : w.heap.size < w2.heap.size := Nat.lt_trans HM.out.low HM.out.lt
    have HR : Hid (Row (w2.alloc (.cells (intsV [0, 1099511627776]).toArray 3)) (some ⟨w2.heap.size, 0, none⟩) 2 2 1 (intsV [0, 1099511627776])) := Lib.hid (Row.of_block (cs := (intsV [0, 1099511627776]).toArray) (heap_alloc_new _ _) rfl)
    replace HM := Lib.hid (HM.out.later (one_new w2 (.cells (intsV [0, 1099511627776]).toArray 3)))
    refine (of_g L D t (some ⟨w2.heap.size, 0, none⟩) 2 2 [0, 1099511627776] (w2.alloc (.cells (intsV [0, 1099511627776]).toArray 3)) HM.out.dice HR.out (fun ad e => by injection e with e; subst e; show w2.heap.size ≠ D; omega) (by omega) (by omega)).mono ?_
    clear HR
    generalize (w2.alloc (.cells (intsV [0, 1099511627776]).toArray 3)) = z at HM ⊢
    rintro e w3 ⟨q, rfl, hin, hg⟩
    replace HM := Lib.hid (HM.out.gave hg); clear hg
    clear hin hlow
    go_wp2_with fail
    refine (next_g L D t 3 _ HM.out.dice (by omega) (by omega)).mono ?_
    rintro e w4 ⟨r, rfl, hr0, hrm, hg⟩
    replace HM := Lib.hid (HM.out.gave hg); clear hg
    have hf5 : w4.frozen? ⟨w1.heap.size, 5, none⟩ = false := frozen_of_row _ _ _ _ _ HM.out.cur
    have hc5 : w4.cell? ⟨w1.heap.size, 5, none⟩ = some (.int .i64 0) := by rw [cell_of_row _ _ _ _ _ _ HM.out.cur]; rfl
    have hf6 : w4.frozen? ⟨w1.heap.size, 6, none⟩ = false := frozen_of_row _ _ _ _ _ HM.out.cur
    have hc6 : w4.cell? ⟨w1.heap.size, 6, none⟩ = some (.int .i64 0) := by rw [cell_of_row _ _ _ _ _ _ HM.out.cur]; rfl
    have hf7 : w4.frozen? ⟨w1.heap.size, 7, none⟩ = false := frozen_of_row _ _ _ _ _ HM.out.cur
    have hc7 : w4.cell? ⟨w1.heap.size, 7, none⟩ = some (.int .i64 0) := by rw [cell_of_row _ _ _ _ _ _ HM.out.cur]; rfl
    have HF : Hid (Mid L D t w w1.heap.size #[.int .i64 author, .int .i64 0, .string ⟨#[]⟩, .int .i64 time, .int .i64 kd, .int .i64 p, .int .i64 q, .int .i64 r, .slice none 0 0, .slice none 0 0, .string ⟨#[]⟩, .int .i64 0, .string ⟨#[]⟩] _) := Lib.hid (((HM.out.set 5 (.int .i64 p)).set 6 (.int .i64 q)).set 7 (.int .i64 r))
    clear HM
    go_wp2_with fail
    clear hf5 hf6 hf7 hc5 hc6 hc7
    refine (next_g L D t 3 _ HF.out.dice (by omega) (by omega)).mono ?_
    rintro e w5 ⟨N, rfl, hN0, hN3, hg⟩
    replace HF := Lib.hid (HF.out.gave hg); clear hg
    go_wp2_with fail
    go_loopw [8] (fun i wr => ∃ j : Nat, i = .int .i64 j ∧ ∃ (A : Option Addr) (n c : Nat) (l : List Int), n + j ≤ 2 ∧ Hid (Mid L D t w w1.heap.size #[.int .i64 author, .int .i64 0, .string ⟨#[]⟩, .int .i64 time, .int .i64 kd, .int .i64 p, .int .i64 q, .int .i64 r, (.slice A n c), .slice none 0 0, .string ⟨#[]⟩, .int .i64 0, .string ⟨#[]⟩] wr ∧ l.length = n ∧ wr.ownsRow (w1.heap.size + 1) 3 1 (.slice A n c) n (intsV l))) (fun i _ => (intOf i).toNat)
    case atStart => exact ⟨N.toNat, by go_num, none, 0, 0, [], by omega, Lib.hid ⟨HF.out, rfl, World.ownsRow_nil _ _ _ _⟩⟩
    case round =>
      obtain ⟨j, rfl, A, n, c, l, hnj, HQ⟩ := hrel
      have HM := Lib.hid HQ.out.1; have HL := Lib.hid HQ.out.2.1; have HO := Lib.hid HQ.out.2.2; clear HQ
      by_cases hlt : 0 < j
      · go_wp2_with fail
        have hDS : D < w1.heap.size + 1 := Nat.lt_succ_of_lt (Nat.lt_trans HM.out.dlt HM.out.low)
        have hlow : D < wr.heap.size := by have := HM.out.lt; omega
        refine wp_region_flow (by kernel_rfl) (fun _ _ => True) ?_
        rw [show wr.heap.size = wr.drew.heap.size from rfl] at hlow
        replace HM := Lib.hid (HM.out.later (Later.drew wr)); replace HO := Lib.hid (World.ownsRow.drew HO.out)
        generalize wr.drew = x0 at HM HO hlow ⊢
        refine flow_reads (fun _ => trivial) (by kernel_rfl) [0, 2] (fuel := 7) (by kernel_rfl) ?_
        simp only [List.map_cons, List.map_nil, pick, List.getD_cons_zero, List.getD_cons_succ]
        repeat (go_big_quiet_step (fail))
        refine wpQuiet_nil ?_
        refine flow_two (fun _ _ _ _ _ => trivial) (fun _ => trivial) 1 3 (by kernel_rfl) (by decide) (by decide) ?_ ?_ <;> simp only [pick, List.getD_cons_zero, List.getD_cons_succ]
        · have hc8 : x0.cell? ⟨w1.heap.size, 8, none⟩ = some (.slice A n c) := (cell_of_row _ _ _ _ _ _ HM.out.cur).trans rfl
          go_wp2_with fail
          clear hc8
          refine pieceEnd_normal ⟨trivial, ?_⟩
          refine flow_one (fun _ _ _ _ _ => trivial) (fun _ => trivial) 3 (by kernel_rfl) (by decide) ?_
          simp only [pick, List.getD_cons_zero, List.getD_cons_succ]
          go_wp2_with fail
          refine pieceEnd_normal ⟨trivial, ?_⟩
          have HR : Hid (Row (x0.alloc (.cells #[.int .i64 0, .int .i64 5, .int .i64 1099511627776] 3)) (some ⟨x0.heap.size, 0, none⟩) 3 3 1 (intsV [0, 5, 1099511627776])) := Lib.hid (Row.of_block (cs := (intsV [0, 5, 1099511627776]).toArray) (heap_alloc_new _ _) rfl)
          replace HM := Lib.hid (HM.out.later (one_new x0 (.cells #[.int .i64 0, .int .i64 5, .int .i64 1099511627776] 3))); replace HO := Lib.hid (World.ownsRow.alloc HO.out (.cells #[.int .i64 0, .int .i64 5, .int .i64 1099511627776] 3))
          generalize x0.alloc (.cells #[.int .i64 0, .int .i64 5, .int .i64 1099511627776] 3) = x1 at HM HO HR ⊢
          refine flow_one (fun _ _ _ _ _ => trivial) (fun _ => trivial) 4 (by kernel_rfl) (by decide) ?_
          simp only [pick, List.getD_cons_zero, List.getD_cons_succ]
          go_wp2_with fail
          refine (of_g L D t (some ⟨x0.heap.size, 0, none⟩) 3 3 [0, 5, 1099511627776] x1 HM.out.dice HR.out (fun ad e => by injection e with e; subst e; show x0.heap.size ≠ D; omega) (by omega) (by omega)).mono ?_
          rintro e x2 ⟨v, rfl, -, hg⟩
          replace HO := Lib.hid (own_but HO.out hg.2 hDS); replace HM := Lib.hid (HM.out.gave hg); clear hg HR
          go_wp2_with fail
          refine pieceEnd_normal ⟨trivial, ?_⟩
          refine flow_one (fun _ _ _ _ _ => trivial) (fun _ => trivial) 5 (by kernel_rfl) (by decide) ?_
          simp only [pick, List.getD_cons_zero, List.getD_cons_succ]
          go_wp2_with fail
          refine pieceEnd_normal ⟨trivial, ?_⟩
          refine flow_one (fun _ _ _ _ _ => trivial) (fun _ => trivial) 6 (by kernel_rfl) (by decide) ?_
          simp only [pick, List.getD_cons_zero, List.getD_cons_succ]
          have hsz : w1.heap.size + 1 ≤ x2.heap.size := HM.out.lt
          go_wp2_with (at_builtin; go_must (refine wpList_app_new x2 rfl (.tmp 34) (.tmp 38) 22 3 rfl (w1.heap.size + 1) Tryz.underlying22 i64_info rfl _ n (intsV l) HO.out rfl 1 #[.int .i64 v] rfl (by simp [Value.oneCell']) rfl rfl (by unfold maxLen; omega) (by omega) hsz ?_); intro v3 w3 ho3 hb3; have HO3 := Lib.hid ho3; have HB3 := Lib.hid hb3; clear ho3 hb3)
          clear hsz HO
          replace HM := Lib.hid (HM.out.belowS HB3.out); clear HB3
          obtain ⟨A3, c3, rfl, -⟩ := Row.of_own HO3.out
          refine flow_one (fun _ _ _ _ _ => trivial) (fun _ => trivial) 7 (by kernel_rfl) (by decide) ?_
          simp only [pick, List.getD_cons_zero, List.getD_cons_succ]
          go_wp2_with fail
          refine pieceEnd_normal ⟨trivial, ?_⟩
          refine flow_one (fun _ _ _ _ _ => trivial) (fun _ => trivial) 8 (by kernel_rfl) (by decide) ?_
          simp only [pick, List.getD_cons_zero, List.getD_cons_succ]
          have hf8 : w3.frozen? ⟨w1.heap.size, 8, none⟩ = false := frozen_of_row _ _ _ _ _ HM.out.cur
          have hc8 : w3.cell? ⟨w1.heap.size, 8, none⟩ = some (.slice A n c) := (cell_of_row _ _ _ _ _ _ HM.out.cur).trans rfl
          go_wp2_with fail
          clear hf8 hc8
          refine pieceEnd_normal ⟨trivial, ?_⟩
          refine flow_done (by kernel_rfl) ?_
          have HM2 : Hid (Mid L D t w w1.heap.size #[.int .i64 author, .int .i64 0, .string ⟨#[]⟩, .int .i64 time, .int .i64 kd, .int .i64 p, .int .i64 q, .int .i64 r, (.slice A3 (n + 1) c3), .slice none 0 0, .string ⟨#[]⟩, .int .i64 0, .string ⟨#[]⟩] _) := Lib.hid (HM.out.set 8 (.slice A3 (n + 1) c3))
          have HO2 := Lib.hid (ownsRow_setCell_below HO3.out (a := ⟨w1.heap.size, 8, none⟩) (Nat.lt_succ_self _) (.slice A3 (n + 1) c3))
          clear HM HO3
          go_wp2_with fail
          refine ⟨⟨j - 1, by go_num, A3, n + 1, c3, l ++ [v], by omega, Lib.hid ⟨HM2.out, by rw [List.length_append, HL.out]; rfl, by rw [intsV_app]; exact HO2.out⟩⟩, by simp [intOf]; omega⟩
        · go_wp2_with fail
          refine pieceEnd_normal ⟨trivial, ?_⟩
          have HR : Hid (Row (x0.alloc (.cells #[.int .i64 0, .int .i64 5, .int .i64 1099511627776] 3)) (some ⟨x0.heap.size, 0, none⟩) 3 3 1 (intsV [0, 5, 1099511627776])) := Lib.hid (Row.of_block (cs := (intsV [0, 5, 1099511627776]).toArray) (heap_alloc_new _ _) rfl)
          replace HM := Lib.hid (HM.out.later (one_new x0 (.cells #[.int .i64 0, .int .i64 5, .int .i64 1099511627776] 3))); replace HO := Lib.hid (World.ownsRow.alloc HO.out (.cells #[.int .i64 0, .int .i64 5, .int .i64 1099511627776] 3))
          generalize x0.alloc (.cells #[.int .i64 0, .int .i64 5, .int .i64 1099511627776] 3) = x1 at HM HO HR ⊢
          refine flow_two (fun _ _ _ _ _ => trivial) (fun _ => trivial) 1 4 (by kernel_rfl) (by decide) (by decide) ?_ ?_ <;> simp only [pick, List.getD_cons_zero, List.getD_cons_succ]
          · have hc8 : x1.cell? ⟨w1.heap.size, 8, none⟩ = some (.slice A n c) := (cell_of_row _ _ _ _ _ _ HM.out.cur).trans rfl
            go_wp2_with fail
            clear hc8
            refine pieceEnd_normal ⟨trivial, ?_⟩
            refine flow_one (fun _ _ _ _ _ => trivial) (fun _ => trivial) 4 (by kernel_rfl) (by decide) ?_
            simp only [pick, List.getD_cons_zero, List.getD_cons_succ]
            go_wp2_with fail
            refine (of_g L D t (some ⟨x0.heap.size, 0, none⟩) 3 3 [0, 5, 1099511627776] x1 HM.out.dice HR.out (fun ad e => by injection e with e; subst e; show x0.heap.size ≠ D; omega) (by omega) (by omega)).mono ?_
            rintro e x2 ⟨v, rfl, -, hg⟩
            replace HO := Lib.hid (own_but HO.out hg.2 hDS); replace HM := Lib.hid (HM.out.gave hg); clear hg HR
            go_wp2_with fail
            refine pieceEnd_normal ⟨trivial, ?_⟩
            refine flow_one (fun _ _ _ _ _ => trivial) (fun _ => trivial) 5 (by kernel_rfl) (by decide) ?_
            simp only [pick, List.getD_cons_zero, List.getD_cons_succ]
            go_wp2_with fail
            refine pieceEnd_normal ⟨trivial, ?_⟩
            refine flow_one (fun _ _ _ _ _ => trivial) (fun _ => trivial) 6 (by kernel_rfl) (by decide) ?_
            simp only [pick, List.getD_cons_zero, List.getD_cons_succ]
            have hsz : w1.heap.size + 1 ≤ x2.heap.size := HM.out.lt
            go_wp2_with (at_builtin; go_must (refine wpList_app_new x2 rfl (.tmp 34) (.tmp 38) 22 3 rfl (w1.heap.size + 1) Tryz.underlying22 i64_info rfl _ n (intsV l) HO.out rfl 1 #[.int .i64 v] rfl (by simp [Value.oneCell']) rfl rfl (by unfold maxLen; omega) (by omega) hsz ?_); intro v3 w3 ho3 hb3; have HO3 := Lib.hid ho3; have HB3 := Lib.hid hb3; clear ho3 hb3)
            clear hsz HO
            replace HM := Lib.hid (HM.out.belowS HB3.out); clear HB3
            obtain ⟨A3, c3, rfl, -⟩ := Row.of_own HO3.out
            refine flow_one (fun _ _ _ _ _ => trivial) (fun _ => trivial) 7 (by kernel_rfl) (by decide) ?_
            simp only [pick, List.getD_cons_zero, List.getD_cons_succ]
            go_wp2_with fail
            refine pieceEnd_normal ⟨trivial, ?_⟩
            refine flow_one (fun _ _ _ _ _ => trivial) (fun _ => trivial) 8 (by kernel_rfl) (by decide) ?_
            simp only [pick, List.getD_cons_zero, List.getD_cons_succ]
            have hf8 : w3.frozen? ⟨w1.heap.size, 8, none⟩ = false := frozen_of_row _ _ _ _ _ HM.out.cur
            have hc8 : w3.cell? ⟨w1.heap.size, 8, none⟩ = some (.slice A n c) := (cell_of_row _ _ _ _ _ _ HM.out.cur).trans rfl
            go_wp2_with fail
            clear hf8 hc8
            refine pieceEnd_normal ⟨trivial, ?_⟩
            refine flow_done (by kernel_rfl) ?_
            have HM2 : Hid (Mid L D t w w1.heap.size #[.int .i64 author, .int .i64 0, .string ⟨#[]⟩, .int .i64 time, .int .i64 kd, .int .i64 p, .int .i64 q, .int .i64 r, (.slice A3 (n + 1) c3), .slice none 0 0, .string ⟨#[]⟩, .int .i64 0, .string ⟨#[]⟩] _) := Lib.hid (HM.out.set 8 (.slice A3 (n + 1) c3))
            have HO2 := Lib.hid (ownsRow_setCell_below HO3.out (a := ⟨w1.heap.size, 8, none⟩) (Nat.lt_succ_self _) (.slice A3 (n + 1) c3))
            clear HM HO3
            go_wp2_with fail
            refine ⟨⟨j - 1, by go_num, A3, n + 1, c3, l ++ [v], by omega, Lib.hid ⟨HM2.out, by rw [List.length_append, HL.out]; rfl, by rw [intsV_app]; exact HO2.out⟩⟩, by simp [intOf]; omega⟩
          · go_wp2_with fail
            refine (of_g L D t (some ⟨x0.heap.size, 0, none⟩) 3 3 [0, 5, 1099511627776] x1 HM.out.dice HR.out (fun ad e => by injection e with e; subst e; show x0.heap.size ≠ D; omega) (by omega) (by omega)).mono ?_
            rintro e x2 ⟨v, rfl, -, hg⟩
            replace HO := Lib.hid (own_but HO.out hg.2 hDS); replace HM := Lib.hid (HM.out.gave hg); clear hg HR
            go_wp2_with fail
            refine pieceEnd_normal ⟨trivial, ?_⟩
            refine flow_two (fun _ _ _ _ _ => trivial) (fun _ => trivial) 1 5 (by kernel_rfl) (by decide) (by decide) ?_ ?_ <;> simp only [pick, List.getD_cons_zero, List.getD_cons_succ]
            · have hc8 : x2.cell? ⟨w1.heap.size, 8, none⟩ = some (.slice A n c) := (cell_of_row _ _ _ _ _ _ HM.out.cur).trans rfl
              go_wp2_with fail
              clear hc8
              refine pieceEnd_normal ⟨trivial, ?_⟩
              refine flow_one (fun _ _ _ _ _ => trivial) (fun _ => trivial) 5 (by kernel_rfl) (by decide) ?_
              simp only [pick, List.getD_cons_zero, List.getD_cons_succ]
              go_wp2_with fail
              refine pieceEnd_normal ⟨trivial, ?_⟩
              refine flow_one (fun _ _ _ _ _ => trivial) (fun _ => trivial) 6 (by kernel_rfl) (by decide) ?_
              simp only [pick, List.getD_cons_zero, List.getD_cons_succ]
              have hsz : w1.heap.size + 1 ≤ x2.heap.size := HM.out.lt
              go_wp2_with (at_builtin; go_must (refine wpList_app_new x2 rfl (.tmp 34) (.tmp 38) 22 3 rfl (w1.heap.size + 1) Tryz.underlying22 i64_info rfl _ n (intsV l) HO.out rfl 1 #[.int .i64 v] rfl (by simp [Value.oneCell']) rfl rfl (by unfold maxLen; omega) (by omega) hsz ?_); intro v3 w3 ho3 hb3; have HO3 := Lib.hid ho3; have HB3 := Lib.hid hb3; clear ho3 hb3)
              clear hsz HO
              replace HM := Lib.hid (HM.out.belowS HB3.out); clear HB3
              obtain ⟨A3, c3, rfl, -⟩ := Row.of_own HO3.out
              refine flow_one (fun _ _ _ _ _ => trivial) (fun _ => trivial) 7 (by kernel_rfl) (by decide) ?_
              simp only [pick, List.getD_cons_zero, List.getD_cons_succ]
              go_wp2_with fail
              refine pieceEnd_normal ⟨trivial, ?_⟩
              refine flow_one (fun _ _ _ _ _ => trivial) (fun _ => trivial) 8 (by kernel_rfl) (by decide) ?_
              simp only [pick, List.getD_cons_zero, List.getD_cons_succ]
              have hf8 : w3.frozen? ⟨w1.heap.size, 8, none⟩ = false := frozen_of_row _ _ _ _ _ HM.out.cur
              have hc8 : w3.cell? ⟨w1.heap.size, 8, none⟩ = some (.slice A n c) := (cell_of_row _ _ _ _ _ _ HM.out.cur).trans rfl
              go_wp2_with fail
              clear hf8 hc8
              refine pieceEnd_normal ⟨trivial, ?_⟩
              refine flow_done (by kernel_rfl) ?_
              have HM2 : Hid (Mid L D t w w1.heap.size #[.int .i64 author, .int .i64 0, .string ⟨#[]⟩, .int .i64 time, .int .i64 kd, .int .i64 p, .int .i64 q, .int .i64 r, (.slice A3 (n + 1) c3), .slice none 0 0, .string ⟨#[]⟩, .int .i64 0, .string ⟨#[]⟩] _) := Lib.hid (HM.out.set 8 (.slice A3 (n + 1) c3))
              have HO2 := Lib.hid (ownsRow_setCell_below HO3.out (a := ⟨w1.heap.size, 8, none⟩) (Nat.lt_succ_self _) (.slice A3 (n + 1) c3))
              clear HM HO3
              go_wp2_with fail
              refine ⟨⟨j - 1, by go_num, A3, n + 1, c3, l ++ [v], by omega, Lib.hid ⟨HM2.out, by rw [List.length_append, HL.out]; rfl, by rw [intsV_app]; exact HO2.out⟩⟩, by simp [intOf]; omega⟩
            · go_wp2_with fail
              refine pieceEnd_normal ⟨trivial, ?_⟩
              have HMa := Lib.hid (HM.out.later (one_new x2 (.cells #[.int .i64 v] 3)))
              refine flow_one (fun _ _ _ _ _ => trivial) (fun _ => trivial) 1 (by kernel_rfl) (by decide) ?_
              simp only [pick, List.getD_cons_zero, List.getD_cons_succ]
              have hc8 : (x2.alloc (.cells #[.int .i64 v] 3)).cell? ⟨w1.heap.size, 8, none⟩ = some (.slice A n c) := (cell_of_row _ _ _ _ _ _ HMa.out.cur).trans rfl
              go_wp2_with fail
              clear hc8
              refine pieceEnd_normal ⟨trivial, ?_⟩
              clear HMa
              refine flow_one (fun _ _ _ _ _ => trivial) (fun _ => trivial) 6 (by kernel_rfl) (by decide) ?_
              simp only [pick, List.getD_cons_zero, List.getD_cons_succ]
              have hsz : w1.heap.size + 1 ≤ x2.heap.size := HM.out.lt
              go_wp2_with (at_builtin; go_must (refine wpList_app_new x2 rfl (.tmp 34) (.tmp 38) 22 3 rfl (w1.heap.size + 1) Tryz.underlying22 i64_info rfl _ n (intsV l) HO.out rfl 1 #[.int .i64 v] rfl (by simp [Value.oneCell']) rfl rfl (by unfold maxLen; omega) (by omega) hsz ?_); intro v3 w3 ho3 hb3; have HO3 := Lib.hid ho3; have HB3 := Lib.hid hb3; clear ho3 hb3)
              clear hsz HO
              replace HM := Lib.hid (HM.out.belowS HB3.out); clear HB3
              obtain ⟨A3, c3, rfl, -⟩ := Row.of_own HO3.out
              refine flow_one (fun _ _ _ _ _ => trivial) (fun _ => trivial) 7 (by kernel_rfl) (by decide) ?_
              simp only [pick, List.getD_cons_zero, List.getD_cons_succ]
              go_wp2_with fail
              refine pieceEnd_normal ⟨trivial, ?_⟩
              refine flow_one (fun _ _ _ _ _ => trivial) (fun _ => trivial) 8 (by kernel_rfl) (by decide) ?_
              simp only [pick, List.getD_cons_zero, List.getD_cons_succ]
              have hf8 : w3.frozen? ⟨w1.heap.size, 8, none⟩ = false := frozen_of_row _ _ _ _ _ HM.out.cur
              have hc8 : w3.cell? ⟨w1.heap.size, 8, none⟩ = some (.slice A n c) := (cell_of_row _ _ _ _ _ _ HM.out.cur).trans rfl
              go_wp2_with fail
              clear hf8 hc8
              refine pieceEnd_normal ⟨trivial, ?_⟩
              refine flow_done (by kernel_rfl) ?_
              have HM2 : Hid (Mid L D t w w1.heap.size #[.int .i64 author, .int .i64 0, .string ⟨#[]⟩, .int .i64 time, .int .i64 kd, .int .i64 p, .int .i64 q, .int .i64 r, (.slice A3 (n + 1) c3), .slice none 0 0, .string ⟨#[]⟩, .int .i64 0, .string ⟨#[]⟩] _) := Lib.hid (HM.out.set 8 (.slice A3 (n + 1) c3))
              have HO2 := Lib.hid (ownsRow_setCell_below HO3.out (a := ⟨w1.heap.size, 8, none⟩) (Nat.lt_succ_self _) (.slice A3 (n + 1) c3))
              clear HM HO3
              go_wp2_with fail
              refine ⟨⟨j - 1, by go_num, A3, n + 1, c3, l ++ [v], by omega, Lib.hid ⟨HM2.out, by rw [List.length_append, HL.out]; rfl, by rw [intsV_app]; exact HO2.out⟩⟩, by simp [intOf]; omega⟩
      · have hj0 : j = 0 := by omega
        subst hj0
        go_wp2_with fail
        have HR : Hid (MidR L D t w w1.heap.size #[.int .i64 author, .int .i64 0, .string ⟨#[]⟩, .int .i64 time, .int .i64 kd, .int .i64 p, .int .i64 q, .int .i64 r, (.slice A n c), .slice none 0 0, .string ⟨#[]⟩, .int .i64 0, .string ⟨#[]⟩] A n c l none 0 0 [] wr) := Lib.hid ⟨HM.out, by have := Row.of_own HO.out; obtain ⟨A', c', e, h⟩ := this; cases e; exact h, Row.nilRow _ _, up_own HO.out, Up.none0 _ _⟩
        clear HM HO
        refine (one_g L D t 3 _ HR.out.mid.dice (by omega) (by omega)).mono ?_
        rintro e w7 ⟨bb, rfl, hg⟩
        replace HR := Lib.hid (HR.out.gave hg); clear hg
        cases bb
        · have HP1 : Hid (([] : List PinD).length ≤ 1) := Lib.hid (Nat.zero_le _)
          have HP2 : Hid ((pinsBs ([] : List PinD)).length ≤ 56) := Lib.hid (Nat.zero_le _)
          go_wp2_with fail
          generalize ([] : List PinD) = ps at HR HP1 HP2
          refine (bytes_g L D t 5 _ HR.out.mid.dice (by omega) (by omega)).mono ?_
          rintro e w8 ⟨A2, n2, c2, us, rfl, hrow, hus, hg⟩
          replace HR : Hid (MidR L D t w w1.heap.size #[.int .i64 author, .int .i64 0, .string ⟨#[]⟩, .int .i64 time, .int .i64 kd, .int .i64 p, .int .i64 q, .int .i64 r, (.slice A n c), (.slice none 0 0), .string ⟨#[]⟩, .int .i64 0, .string ⟨#[]⟩] A n c l none 0 0 ps w8) := Lib.hid (HR.out.gave hg); clear hg
          have hcv := conv_at hrow (Below.refl _ _) rfl
          clear hrow
          have hf10 : w8.frozen? ⟨w1.heap.size, 10, none⟩ = false := frozen_of_row _ _ _ _ _ HR.out.mid.cur
          have hc10 : w8.cell? ⟨w1.heap.size, 10, none⟩ = some (.string ⟨#[]⟩) := (cell_of_row _ _ _ _ _ _ HR.out.mid.cur).trans rfl
          have HF : Hid (MidR L D t w w1.heap.size #[.int .i64 author, .int .i64 0, .string ⟨#[]⟩, .int .i64 time, .int .i64 kd, .int .i64 p, .int .i64 q, .int .i64 r, (.slice A n c), (.slice none 0 0), .string (strOf us), .int .i64 0, .string ⟨#[]⟩] A n c l none 0 0 ps _) := Lib.hid (HR.out.set 10 (.string (strOf us)))
          have HU := Lib.hid hus; clear hus
          go_wp2_with (refine stop_atD (.load 48 (.tmp 7)) rfl (MidR L D t w w1.heap.size #[.int .i64 author, .int .i64 0, .string ⟨#[]⟩, .int .i64 time, .int .i64 kd, .int .i64 p, .int .i64 q, .int .i64 r, (.slice A n c), (.slice none 0 0), .string (strOf us), .int .i64 0, .string ⟨#[]⟩] A n c l none 0 0 ps) HF.out ?_)
          have hus := HU.out
          refine Lib.hid ?_
          intro w9 hM9
          have HM9 := Lib.hid hM9; clear hM9
          go_wp2_with (first
            | refine wpList_load_row rfl 48 (.tmp 7) rfl w1.heap.size rfl 48 #[.int .i64 author, .int .i64 0, .string ⟨#[]⟩, .int .i64 time, .int .i64 kd, .int .i64 p, .int .i64 q, .int .i64 r, (.slice A n c), (.slice none 0 0), .string (strOf us), .int .i64 0, .string ⟨#[]⟩] (0, 0) _ HM9.out.mid.cur Tryz.underlying48 rfl (by kernel_rfl) ?_
            | refine wpList_store_row rfl 48 (.tmp 6) (.tmp 88) rfl w.heap.size #[.int .i64 author, .int .i64 0, .string ⟨#[]⟩, .int .i64 time, .int .i64 kd, .int .i64 p, .int .i64 q, .int .i64 r, (.slice A n c), (.slice none 0 0), .string (strOf us), .int .i64 0, .string ⟨#[]⟩] rfl rfl 48 _ HM9.out.mid.res (by kernel_rfl) rfl (by simp [Value.oneCell']) ?_)
          obtain ⟨h1, h2, h3, h4, h5⟩ := HM9.out.gone #[.int .i64 author, .int .i64 0, .string ⟨#[]⟩, .int .i64 time, .int .i64 kd, .int .i64 p, .int .i64 q, .int .i64 r, (.slice A n c), (.slice none 0 0), .string (strOf us), .int .i64 0, .string ⟨#[]⟩]
          refine bodyPost_ret (v := .agg #[.int .i64 author, .int .i64 0, .string ⟨#[]⟩, .int .i64 time, .int .i64 kd, .int .i64 p, .int .i64 q, .int .i64 r, (.slice A n c), (.slice none 0 0), .string (strOf us), .int .i64 0, .string ⟨#[]⟩]) (results_cell_row rfl _ _ w.heap.size 48 #[.int .i64 author, .int .i64 0, .string ⟨#[]⟩, .int .i64 time, .int .i64 kd, .int .i64 p, .int .i64 q, .int .i64 r, (.slice A n c), (.slice none 0 0), .string (strOf us), .int .i64 0, .string ⟨#[]⟩] (0, 0) _ rfl (setRow_heap _ _ _ _ _ _ HM9.out.mid.res) Tryz.underlying48 rfl (by kernel_rfl)) rfl
            ⟨⟨author, 0, ⟨#[]⟩, time, kd, p, q, r, l, ps, strOf us, 0, ⟨#[]⟩⟩, A, n, c, none, 0, 0, rfl, h1, h2, h3, h4, by show l.length ≤ 2; have := HL.out; omega, HP1.out, HP2.out, by show (strOf us).size ≤ 5; rw [strOf_size]; omega, rfl, rfl, h5, rfl, rfl, rfl⟩
        · go_wp2_with fail
          refine (next_g L D t 5 _ HR.out.mid.dice (by omega) (by omega)).mono ?_
          rintro e w8 ⟨pa, rfl, hpa0, hpam, hg⟩
          replace HR := Lib.hid (HR.out.gave hg); clear hg
          go_wp2_with fail
          refine (next_g L D t 4 _ HR.out.mid.dice (by omega) (by omega)).mono ?_
          rintro e w9 ⟨ph, rfl, hph0, hphm, hg⟩
          replace HR := Lib.hid (HR.out.gave hg); clear hg
          go_wp2_with fail
          refine (ddigest_g L D t _ HR.out.mid.dice).mono ?_
          rintro e w10 ⟨pd, rfl, hpd, hg⟩
          replace HR := Lib.hid (HR.out.gave hg); clear hg
          have HP1 : Hid ([(⟨pa, 1 + ph, pd⟩ : PinD)].length ≤ 1) := Lib.hid (Nat.le_refl _)
          have HP2 : Hid ((pinsBs [(⟨pa, 1 + ph, pd⟩ : PinD)]).length ≤ 56) := Lib.hid (by simp only [pinsBs, List.flatMap_cons, List.flatMap_nil, List.append_nil, pinBs, List.length_append, listB_len, textS_len, hpd]; exact Nat.le_refl _)
          clear hpd
          have hlt := HR.out.mid.lt
          replace HR : Hid (MidR L D t w w1.heap.size #[.int .i64 author, .int .i64 0, .string ⟨#[]⟩, .int .i64 time, .int .i64 kd, .int .i64 p, .int .i64 q, .int .i64 r, (.slice A n c), .slice none 0 0, .string ⟨#[]⟩, .int .i64 0, .string ⟨#[]⟩] A n c l none 0 0 [] (w10.alloc (.cells #[.int .i64 pa, .int .i64 (1 + ph), .string pd] 122))) := Lib.hid (HR.out.later (one_new _ _))
          replace HR : Hid (MidR L D t w w1.heap.size #[.int .i64 author, .int .i64 0, .string ⟨#[]⟩, .int .i64 time, .int .i64 kd, .int .i64 p, .int .i64 q, .int .i64 r, (.slice A n c), .slice none 0 0, .string ⟨#[]⟩, .int .i64 0, .string ⟨#[]⟩] A n c l (some ⟨w10.heap.size, 0, none⟩) 1 1 [⟨pa, 1 + ph, pd⟩] (w10.alloc (.cells #[.int .i64 pa, .int .i64 (1 + ph), .string pd] 122))) := Lib.hid (HR.out.pins (Row.of_block (heap_alloc_new _ _) rfl) (fun ad e => by injection e with e; subst e; exact ⟨hlt, by simp⟩))
          have hf9 : (w10.alloc (.cells #[.int .i64 pa, .int .i64 (1 + ph), .string pd] 122)).frozen? ⟨w1.heap.size, 9, none⟩ = false := frozen_of_row _ _ _ _ _ HR.out.mid.cur
          have hc9 : (w10.alloc (.cells #[.int .i64 pa, .int .i64 (1 + ph), .string pd] 122)).cell? ⟨w1.heap.size, 9, none⟩ = some (.slice none 0 0) := (cell_of_row _ _ _ _ _ _ HR.out.mid.cur).trans rfl
          replace HR : Hid (MidR L D t w w1.heap.size #[.int .i64 author, .int .i64 0, .string ⟨#[]⟩, .int .i64 time, .int .i64 kd, .int .i64 p, .int .i64 q, .int .i64 r, (.slice A n c), (.slice (some ⟨w10.heap.size, 0, none⟩) 1 1), .string ⟨#[]⟩, .int .i64 0, .string ⟨#[]⟩] A n c l (some ⟨w10.heap.size, 0, none⟩) 1 1 [⟨pa, 1 + ph, pd⟩] _) := Lib.hid (HR.out.set 9 (.slice (some ⟨w10.heap.size, 0, none⟩) 1 1))
          clear hlt
          go_wp2_with fail
          clear hf9 hc9
          generalize ([(⟨pa, 1 + ph, pd⟩ : PinD)]) = ps at HR HP1 HP2
          refine (bytes_g L D t 5 _ HR.out.mid.dice (by omega) (by omega)).mono ?_
          rintro e w8 ⟨A2, n2, c2, us, rfl, hrow, hus, hg⟩
          replace HR : Hid (MidR L D t w w1.heap.size #[.int .i64 author, .int .i64 0, .string ⟨#[]⟩, .int .i64 time, .int .i64 kd, .int .i64 p, .int .i64 q, .int .i64 r, (.slice A n c), (.slice (some ⟨w10.heap.size, 0, none⟩) 1 1), .string ⟨#[]⟩, .int .i64 0, .string ⟨#[]⟩] A n c l (some ⟨w10.heap.size, 0, none⟩) 1 1 ps w8) := Lib.hid (HR.out.gave hg); clear hg
          have hcv := conv_at hrow (Below.refl _ _) rfl
          clear hrow
          have hf10 : w8.frozen? ⟨w1.heap.size, 10, none⟩ = false := frozen_of_row _ _ _ _ _ HR.out.mid.cur
          have hc10 : w8.cell? ⟨w1.heap.size, 10, none⟩ = some (.string ⟨#[]⟩) := (cell_of_row _ _ _ _ _ _ HR.out.mid.cur).trans rfl
          have HF : Hid (MidR L D t w w1.heap.size #[.int .i64 author, .int .i64 0, .string ⟨#[]⟩, .int .i64 time, .int .i64 kd, .int .i64 p, .int .i64 q, .int .i64 r, (.slice A n c), (.slice (some ⟨w10.heap.size, 0, none⟩) 1 1), .string (strOf us), .int .i64 0, .string ⟨#[]⟩] A n c l (some ⟨w10.heap.size, 0, none⟩) 1 1 ps _) := Lib.hid (HR.out.set 10 (.string (strOf us)))
          have HU := Lib.hid hus; clear hus
          go_wp2_with (refine stop_atD (.load 48 (.tmp 7)) rfl (MidR L D t w w1.heap.size #[.int .i64 author, .int .i64 0, .string ⟨#[]⟩, .int .i64 time, .int .i64 kd, .int .i64 p, .int .i64 q, .int .i64 r, (.slice A n c), (.slice (some ⟨w10.heap.size, 0, none⟩) 1 1), .string (strOf us), .int .i64 0, .string ⟨#[]⟩] A n c l (some ⟨w10.heap.size, 0, none⟩) 1 1 ps) HF.out ?_)
          have hus := HU.out
          refine Lib.hid ?_
          intro w9 hM9
          have HM9 := Lib.hid hM9; clear hM9
          go_wp2_with (first
            | refine wpList_load_row rfl 48 (.tmp 7) rfl w1.heap.size rfl 48 #[.int .i64 author, .int .i64 0, .string ⟨#[]⟩, .int .i64 time, .int .i64 kd, .int .i64 p, .int .i64 q, .int .i64 r, (.slice A n c), (.slice (some ⟨w10.heap.size, 0, none⟩) 1 1), .string (strOf us), .int .i64 0, .string ⟨#[]⟩] (0, 0) _ HM9.out.mid.cur Tryz.underlying48 rfl (by kernel_rfl) ?_
            | refine wpList_store_row rfl 48 (.tmp 6) (.tmp 88) rfl w.heap.size #[.int .i64 author, .int .i64 0, .string ⟨#[]⟩, .int .i64 time, .int .i64 kd, .int .i64 p, .int .i64 q, .int .i64 r, (.slice A n c), (.slice (some ⟨w10.heap.size, 0, none⟩) 1 1), .string (strOf us), .int .i64 0, .string ⟨#[]⟩] rfl rfl 48 _ HM9.out.mid.res (by kernel_rfl) rfl (by simp [Value.oneCell']) ?_)
          obtain ⟨h1, h2, h3, h4, h5⟩ := HM9.out.gone #[.int .i64 author, .int .i64 0, .string ⟨#[]⟩, .int .i64 time, .int .i64 kd, .int .i64 p, .int .i64 q, .int .i64 r, (.slice A n c), (.slice (some ⟨w10.heap.size, 0, none⟩) 1 1), .string (strOf us), .int .i64 0, .string ⟨#[]⟩]
          refine bodyPost_ret (v := .agg #[.int .i64 author, .int .i64 0, .string ⟨#[]⟩, .int .i64 time, .int .i64 kd, .int .i64 p, .int .i64 q, .int .i64 r, (.slice A n c), (.slice (some ⟨w10.heap.size, 0, none⟩) 1 1), .string (strOf us), .int .i64 0, .string ⟨#[]⟩]) (results_cell_row rfl _ _ w.heap.size 48 #[.int .i64 author, .int .i64 0, .string ⟨#[]⟩, .int .i64 time, .int .i64 kd, .int .i64 p, .int .i64 q, .int .i64 r, (.slice A n c), (.slice (some ⟨w10.heap.size, 0, none⟩) 1 1), .string (strOf us), .int .i64 0, .string ⟨#[]⟩] (0, 0) _ rfl (setRow_heap _ _ _ _ _ _ HM9.out.mid.res) Tryz.underlying48 rfl (by kernel_rfl)) rfl
            ⟨⟨author, 0, ⟨#[]⟩, time, kd, p, q, r, l, ps, strOf us, 0, ⟨#[]⟩⟩, A, n, c, (some ⟨w10.heap.size, 0, none⟩), 1, 1, rfl, h1, h2, h3, h4, by show l.length ≤ 2; have := HL.out; omega, HP1.out, HP2.out, by show (strOf us).size ≤ 5; rw [strOf_size]; omega, rfl, rfl, h5, rfl, rfl, rfl⟩
end Go.Proofs.YtnmpbjgccbnomaaGreat
