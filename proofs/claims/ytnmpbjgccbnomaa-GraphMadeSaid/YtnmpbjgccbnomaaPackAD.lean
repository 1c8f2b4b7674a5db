import Derived.Test.YtnmpbjgccbnomaaPackAC
import Derived.Test.YtnmpbjgccbnomaaPackAA
import Derived.Test.YtnmpbjgccbnomaaPackAB
/- The walks of the dice's One and Digest. -/
namespace Go.Proofs.Ytnmpbjgccbnomaa
open Go.RowKit
/-- The dice are still there, more of their numbers given out perhaps, and nothing else has turned. -/
def Gave (L D : Nat) (t : List Int) (w w' : World) : Prop := (∃ k, DiceAt w' L D t k) ∧ But D w w'
theorem next_g (L D : Nat) (t : List Int) (m : Int) (w : World) (h : ∃ k, DiceAt w L D t k) (hm : 1 ≤ m) (hm2 : m ≤ 1000000) :
    Calls Try.prog 13 #[.pointer (some ⟨D, 0, none⟩), .int .i64 m] w fun e w' => ∃ v, e = .returned (.int .i64 v) ∧ 0 ≤ v ∧ v < m ∧ Gave L D t w w' := by
  obtain ⟨k, h⟩ := h
  refine (next_any L D t k m w h hm hm2).mono ?_
  rintro e w' ⟨rfl, hd, hb⟩
  exact ⟨_, rfl, (diceV_bd t k m hm).1, (diceV_bd t k m hm).2, ⟨_, hd⟩, hb⟩
theorem of_g (L D : Nat) (t : List Int) (A : Option Addr) (n c : Nat) (l : List Int) (w : World) (h : ∃ k, DiceAt w L D t k) (hl : Row w A n c 1 (intsV l)) (hs : ∀ ad, A = some ad → ad.block ≠ D) (h0 : 1 ≤ n) (hn : n ≤ 1000) :
    Calls Try.prog 14 #[.pointer (some ⟨D, 0, none⟩), .slice A n c] w fun e w' => ∃ v, e = .returned (.int .i64 v) ∧ v ∈ l ∧ Gave L D t w w' := by
  obtain ⟨k, h⟩ := h
  have hlen := hl.len
  rw [intsV_len, Nat.mul_one] at hlen
  have hv := diceV_bd t k n (by omega)
  refine (diceOf_any L D t k A n c l w h hl hs h0 hn).mono ?_
  rintro e w' ⟨rfl, hd, hb⟩
  refine ⟨_, rfl, ?_, ⟨_, hd⟩, hb⟩
  rw [List.getD_eq_getElem?_getD, List.getElem?_eq_getElem (by omega)]
  exact List.getElem_mem _
theorem one_g (L D : Nat) (t : List Int) (m : Int) (w : World) (h : ∃ k, DiceAt w L D t k) (hm : 1 ≤ m) (hm2 : m ≤ 1000) :
    Calls Try.prog 34 #[.pointer (some ⟨D, 0, none⟩), .int .i64 m] w fun e w' => ∃ b : Bool, e = .returned (.bool b) ∧ Gave L D t w w' := by
  go_enter Try.func34, Try.ntmps34
  go_wp2_with fail
  refine (next_g L D t m w h hm (by omega)).mono ?_
  rintro e w1 ⟨v, rfl, _, _, hg⟩
  have HG := Lib.hid hg; clear hg
  go_wp2
  go_ret
  exact ⟨_, rfl, HG.out⟩
end Go.Proofs.Ytnmpbjgccbnomaa
/- The walk of the dice's Statement. -/
namespace Go.Proofs.Ytnmpbjgccbnomaa
open Go.RowKit
/-- A slice's block lies above another one. -/
def Up (S : Nat) (x : World) (A : Option Addr) : Prop := ∀ ad, A = some ad → S < ad.block ∧ ad.block < x.heap.size
theorem Up.mono {S : Nat} {x y : World} {A : Option Addr} (h : Up S x A) (hs : x.heap.size ≤ y.heap.size) : Up S y A := fun ad e => ⟨(h ad e).1, Nat.lt_of_lt_of_le (h ad e).2 hs⟩
section
variable {L D : Nat} {t : List Int} {w x y : World} {S : Nat} {cs : Array Value} {A : Option Addr} {n c : Nat} {l : List Int} {B : Option Addr} {m k : Nat} {ps : List PinD}
end
end Go.Proofs.Ytnmpbjgccbnomaa
/- The walk of the dice's Chain. -/
namespace Go.Proofs.Ytnmpbjgccbnomaa
open Go.RowKit
/-- Its lists lie in blocks from B on. -/
def Hi (B : Nat) (p : Pl) : Prop := (∀ ad, p.A = some ad → B ≤ ad.block) ∧ (∀ ad, p.B = some ad → B ≤ ad.block)
theorem Hi.mono {B C : Nat} {p : Pl} (h : Hi B p) (hc : C ≤ B) : Hi C p := ⟨fun ad e => Nat.le_trans hc (h.1 ad e), fun ad e => Nat.le_trans hc (h.2 ad e)⟩
/-- Within a round: the dice are there, and nothing else that was there has turned. -/
structure Rnd (L D : Nat) (t : List Int) (w x : World) : Prop where
  but : But D w x
  dice : ∃ k, DiceAt x L D t k
theorem Rnd.later {L D : Nat} {t : List Int} {w x y : World} (h : Rnd L D t w x) (hb : Later x y) : Rnd L D t w y := ⟨h.but.trans (But.of hb), by obtain ⟨k, hk⟩ := h.dice; exact ⟨k, hk.later hb⟩⟩
theorem Rnd.gave {L D : Nat} {t : List Int} {w x y : World} (h : Rnd L D t w x) (hg : Gave L D t x y) : Rnd L D t w y := ⟨h.but.trans hg.2, hg.1⟩
theorem Rnd.lt {L D : Nat} {t : List Int} {w x : World} (h : Rnd L D t w x) : D < x.heap.size := by obtain ⟨k, hk⟩ := h.dice; exact hk.lt
theorem Rnd.row {L D : Nat} {t : List Int} {w x : World} (h : Rnd L D t w x) (g : Nat) (hg : w.heap.size ≤ g) (hD : D < w.heap.size) (cs : Array Value) : Rnd L D t w (x.setRow g cs) := by
  obtain ⟨k, hk⟩ := h.dice
  exact ⟨⟨h.but.os, h.but.tape, h.but.output, by rw [setRow_size]; exact h.but.size, fun i hi hne => (setRow_other x g i cs (by omega)).trans (h.but.block i hi hne)⟩, k, hk.but (But.of_row _ _ _) (by omega) (by have := hk.low; omega)⟩
/-- Their times lie from 0 to b. -/
def TimL (b : Int) (l : List Pl) : Prop := ∀ p ∈ l, 0 ≤ p.s.time ∧ p.s.time ≤ b
theorem TimL.mono {b c : Int} {l : List Pl} (h : TimL b l) (hc : b ≤ c) : TimL c l := fun p hp => ⟨(h p hp).1, by have := (h p hp).2; omega⟩
theorem TimL.one {b : Int} {p : Pl} (h : 0 ≤ p.s.time ∧ p.s.time ≤ b) : TimL b [p] := fun q hq => by rw [List.mem_singleton.1 hq]; exact h
end Go.Proofs.Ytnmpbjgccbnomaa
/- In the midst of the dice's Spoil: a statement in a block of its own, beside a list. -/
namespace Go.Proofs.Ytnmpbjgccbnomaa
open Go.RowKit
/-- A statement with the same lists. -/
def Pl.to (p : Pl) (s : Stm) : Pl := ⟨s, p.A, p.n, p.c, p.B, p.m, p.k⟩
/-- Its lists do not lie in block g. -/
def OffB (g : Nat) (p : Pl) : Prop := (∀ ad, p.A = some ad → 0 < p.n → ad.block ≠ g) ∧ (∀ ad, p.B = some ad → 0 < p.m → ad.block ≠ g)
theorem PlOk.turn {x y : World} {p : Pl} {g : Nat} (h : PlOk x p) (ho : OffB g p) (hb : But g x y) : PlOk y p := ⟨Row.but h.1 hb fun ad hA h0 => ho.1 ad hA h0, Row.but h.2 hb fun ad hA h0 => ho.2 ad hA h0⟩
theorem Rnd.turn {L D : Nat} {t : List Int} {w x y : World} (h : Rnd L D t w x) {g : Nat} (hg : w.heap.size ≤ g) (hD : D < w.heap.size) (hb : But g x y) : Rnd L D t w y := by
  obtain ⟨k, hk⟩ := h.dice
  exact ⟨⟨hb.os.trans h.but.os, hb.tape.trans h.but.tape, hb.output.trans h.but.output, Nat.le_trans h.but.size hb.size, fun i hi hne => (hb.block i (Nat.lt_of_lt_of_le hi h.but.size) (by omega)).trans (h.but.block i hi hne)⟩, k, hk.but hb (by omega) (by have := hk.low; omega)⟩
theorem own_keepL {w w' : World} {B : Nat} {e : TypeId} {sz : Nat} {v : Value} {n : Nat} {xs : List Value} (h : w.ownsRow B e sz v n xs) (hk : ∀ g, v.ownBlock = some g → w'.heap[g]? = w.heap[g]?) : w'.ownsRow B e sz v n xs := by
  refine ⟨h.1, ?_⟩
  rcases h.2 with hn | ⟨g, cap, cur, rfl, hg, hgg, rest⟩
  · exact .inl hn
  · exact .inr ⟨g, cap, cur, rfl, hg, (hk g rfl).trans hgg, rest⟩
section
variable {L D : Nat} {t : List Int} {wr x y : World} {g : Nat} {p : Pl}
/-- Time and kind stay. -/
def FC (g : Nat) (a b : World) : Prop := b.cell? ⟨g, 3, none⟩ = a.cell? ⟨g, 3, none⟩ ∧ b.cell? ⟨g, 4, none⟩ = a.cell? ⟨g, 4, none⟩
theorem FC.refl (a : World) : FC g a a := ⟨rfl, rfl⟩
theorem FC.trans {a b c : World} (h : FC g a b) (k : FC g b c) : FC g a c := ⟨k.1.trans h.1, k.2.trans h.2⟩
end
end Go.Proofs.Ytnmpbjgccbnomaa
/- The walk of the reference's Active. -/
namespace Go.Proofs.Ytnmpbjgccbnomaa
open Go.RowKit
theorem own_later {w w' : World} {B : Nat} {e : TypeId} {sz : Nat} {v : Value} {n : Nat} {xs : List Value} (h : w.ownsRow B e sz v n xs) (hb : Below w.heap.size w w') : w'.ownsRow B e sz v n xs := own_keepL h fun _ hg => hb.block _ (own_lt h _ hg)
end Go.Proofs.Ytnmpbjgccbnomaa
/- Graphs: rows of edges; Has and Set of the reference. -/
namespace Go.Proofs.Ytnmpbjgccbnomaa
open Go.RowKit
structure Edg where
  fr : Int
  tu : Int
  lv : Int
def Edg.cells (p : Edg) : List Value := [.int .i64 p.fr, .int .i64 p.tu, .int .i64 p.lv]
def Edg.arr (p : Edg) : Array Value := #[.int .i64 p.fr, .int .i64 p.tu, .int .i64 p.lv]
def noEdg : Edg := ⟨0, 0, 0⟩
theorem Edg.size (p : Edg) : p.arr.size = 3 := rfl
theorem Edg.len (p : Edg) : p.cells.length = 3 := rfl
theorem Edg.list (p : Edg) : p.arr.toList = p.cells := rfl
theorem Edg.one (p : Edg) : p.arr.all (·.oneCell') = true := by simp [Edg.arr, Value.oneCell']
theorem Edg.ones (p : Edg) : ∀ u ∈ p.cells, u.oneCell' = true := fun u hu => by
  have h := p.one
  rw [Array.all_eq_true_iff_forall_mem] at h
  exact h u (by rw [← Array.mem_toList_iff, p.list]; exact hu)
theorem Edg.info (p : Edg) : (Try.prog.info? 27).map (·.size) = some p.arr.size := by rw [p.size]; kernel_rfl
abbrev ERow (w : World) (A : Option Addr) (n c : Nat) (l : List Edg) : Prop := GRow Edg.cells 3 w A n c l
theorem ERow.len {w : World} {A : Option Addr} {n c : Nat} {l : List Edg} (h : ERow w A n c l) : l.length = n := GRow.len Edg.len (by decide) h
/-- Whether a number of a list may stand where it does. -/
def okSet (l : List Int) (n : Int) (i : Nat) : Bool := decide (0 ≤ l.getD i 0) && (decide (l.getD i 0 < n) && (decide (i = 0) || decide (l.getD (i - 1) 0 < l.getD i 0)))
def setB (l : List Int) (n : Int) : Bool := (List.range l.length).all (okSet l n)
theorem setB_no {l : List Int} {n : Int} {i : Nat} (hi : i < l.length) (h : okSet l n i = false) : setB l n = false := by
  unfold setB
  rw [List.all_eq_false]
  exact ⟨i, List.mem_range.2 hi, by rw [h]; decide⟩
theorem setB_yes {l : List Int} {n : Int} (h : ∀ i, i < l.length → okSet l n i = true) : setB l n = true := by
  unfold setB
  rw [List.all_eq_true]
  exact fun i hi => h i (List.mem_range.1 hi)
theorem irow_fut {W : World} {b off n c : Nat} {l : List Int} (h : IRow W (some ⟨b, off, none⟩) n c l) (i : Nat) (hi : i < n) (y : World) : (fut Later W y).cell? ⟨b, off + i, none⟩ = some (.int .i64 (l.getD i 0)) := by
  obtain ⟨b2, off2, hA, hc⟩ := IRow.cell (h.later (fut_ok Later.refl W y)) i hi
  injection hA with hA
  injection hA with h1 h2
  subst h1 h2
  exact hc
set_option maxRecDepth 100000 in
set_option maxHeartbeats 4000000 in
theorem has_any11 (A : Option Addr) (n c : Nat) (l : List Int) (x : Int) (w : World) (hl : IRow w A n c l) (hn : n ≤ 100000) : Calls Try.prog 28 #[.slice A n c, .int .i64 x] w (SaysL (.bool (hasI l x)) w) := by
  have HL := Lib.hid hl; have HLN : Hid (l.length = n) := Lib.hid hl.len
  clear hl
  go_enter Try.func28, Try.ntmps28
  go_wp2_with fail
  go_loopw [5] (fun i wr => ∃ j : Nat, j ≤ n ∧ i = .int .i64 j ∧ Hid (hasI (l.drop j) x = hasI l x ∧ Below w.heap.size w wr)) (fun i _ => n - (intOf i).toNat)
  case atStart => exact ⟨0, Nat.zero_le _, rfl, Lib.hid ⟨rfl, Below.refl _ _⟩⟩
  case round =>
    obtain ⟨j, hj, rfl, HQ⟩ := hrel
    by_cases hlt : j < n
    · have hlt2 : (j : Int) < (n : Int) := by omega
      obtain ⟨b, off, hA, hc⟩ := IRow.cell (HL.out.later HQ.out.2) j hlt
      subst hA
      have HD : Hid (hasI (l.drop j) x = if l.getD j 0 = x then true else hasI (l.drop (j + 1)) x) := Lib.hid (by
        rw [List.drop_eq_getElem_cons (by rw [HLN.out]; exact hlt), hasI, List.getD_eq_getElem?_getD, List.getElem?_eq_getElem (by rw [HLN.out]; exact hlt)]; rfl)
      generalize l.getD j 0 = a at *
      by_cases hax : a = x
      · have b0 : (a == x) = true := by rw [hax]; simp
        have HT : Hid (hasI l x = true) := Lib.hid (by rw [← HQ.out.1, HD.out, if_pos hax])
        clear hax
        go_wp2_with fail
        go_ret
        exact ⟨by rw [HT.out]; rfl, HQ.out.2⟩
      · have b0 : (a == x) = false := by rw [beq_eq_false_iff_ne]; exact hax
        have HT : Hid (hasI (l.drop (j + 1)) x = hasI l x) := Lib.hid (by rw [← HQ.out.1, HD.out, if_neg hax])
        clear hax
        go_wp2_with fail
        exact ⟨⟨j + 1, hlt, by go_num, Lib.hid ⟨HT.out, HQ.out.2⟩⟩, by simp [intOf]; omega⟩
    · have hlt2 : ¬ (j : Int) < (n : Int) := by omega
      have HT : Hid (hasI l x = false) := Lib.hid (by rw [← HQ.out.1, List.drop_eq_nil_of_le (by rw [HLN.out]; omega)]; rfl)
      go_wp2_with fail
      go_ret
      exact ⟨by rw [HT.out]; rfl, HQ.out.2⟩
set_option maxRecDepth 100000 in
set_option maxHeartbeats 4000000 in
theorem set_any11 (A : Option Addr) (n c : Nat) (l : List Int) (x : Int) (w : World) (hl : IRow w A n c l) (hn : n ≤ 100000) : Calls Try.prog 46 #[.slice A n c, .int .i64 x] w (SaysL (.bool (setB l x)) w) := by
  have HL := Lib.hid hl; have HLN : Hid (l.length = n) := Lib.hid hl.len
  clear hl
  go_enter Try.func46, Try.ntmps46
  go_wp2_with fail
  go_loopw [5] (fun i wr => ∃ j : Nat, j ≤ n ∧ i = .int .i64 j ∧ Hid ((∀ k, k < j → okSet l x k = true) ∧ Below w.heap.size w wr)) (fun i _ => n - (intOf i).toNat)
  case atStart => exact ⟨0, Nat.zero_le _, rfl, Lib.hid ⟨fun k h => absurd h (Nat.not_lt_zero _), Below.refl _ _⟩⟩
  case round =>
    obtain ⟨j, hj, rfl, HQ⟩ := hrel
    by_cases hlt : j < n
    · have hlt2 : (j : Int) < (n : Int) := by omega
      obtain ⟨b, off, hA, hc⟩ := IRow.cell (HL.out.later HQ.out.2) j hlt
      subst hA
      clear hc
      go_wp2_with fail
      refine wp_region_grow (by kernel_rfl) Later Later.refl (fun _ _ _ => Later.trans) [0, 1, 2, 3, 4, 5, 6, 7, 8, 9, 10, 11, 12, 13, 14, 15, 16, 17, 18, 19, 20, 21, 22, 23, 24, 25, 26, 27, 28] [] (by kernel_rfl) (by kernel_rfl) (by kernel_rfl) ?_
      simp only [List.map_cons, List.map_nil, pick, List.getD_cons_zero, List.getD_cons_succ]
      have HB7 : Hid (Below w.heap.size w wr.drew) := Lib.hid HQ.out.2.drew
      have HK := Lib.hid HQ.out.1
      have HL7 := Lib.hid (IRow.later (HL.out) (show Later w wr.drew from HQ.out.2.drew))
      clear HQ
      generalize wr.drew = z0 at *
      have hf0 := irow_fut HL7.out j hlt
      have HOK : Hid (okSet l x j = (decide (0 ≤ l.getD j 0) && (decide (l.getD j 0 < x) && (decide (j = 0) || decide (l.getD (j - 1) 0 < l.getD j 0))))) := Lib.hid rfl
      by_cases hj0 : 0 < j
      · have hf1 := irow_fut HL7.out (j - 1) (by omega)
        have d0 : decide ((j : Int) > 0) = true := decide_eq_true (by omega)
        have d1 : (0 : Int) < (j : Int) := by omega
        have e0 : (0 : Int) ≤ (j : Int) - 1 := by omega
        have e1 : (j : Int) - 1 < (n : Int) := by omega
        have e2 : ((j : Int) - 1).toNat = j - 1 := by omega
        generalize l.getD j 0 = a at *
        generalize l.getD (j - 1) 0 = a0 at *
        by_cases ha : a < 0
        · have b0 : decide (a < 0) = true := decide_eq_true ha
          have HT : Hid (setB l x = false) := Lib.hid (setB_no (by rw [HLN.out]; exact hlt) (by rw [HOK.out, decide_eq_false (by omega), Bool.false_and]))
          clear ha
          refine wpGrow_nil ?_
          repeat (go_big_quiet_step (fail))
          refine wpQuiet_nil ?_
          clear hf0 hf1
          go_wp2_with fail
          go_ret
          exact ⟨by rw [HT.out]; rfl, HB7.out⟩
        · have b0 : decide (a < 0) = false := decide_eq_false ha
          by_cases hx : x ≤ a
          · have b1 : decide (a ≥ x) = true := decide_eq_true hx
            have b2 : decide (x ≤ a) = true := decide_eq_true hx
            have HT : Hid (setB l x = false) := Lib.hid (setB_no (by rw [HLN.out]; exact hlt) (by rw [HOK.out, decide_eq_false (by omega : ¬ a < x), Bool.false_and, Bool.and_false]))
            clear ha hx
            refine wpGrow_nil ?_
            repeat (go_big_quiet_step (fail))
            refine wpQuiet_nil ?_
            clear hf0 hf1
            go_wp2_with fail
            go_ret
            exact ⟨by rw [HT.out]; rfl, HB7.out⟩
          · have b1 : decide (a ≥ x) = false := decide_eq_false hx
            have b2 : decide (x ≤ a) = false := decide_eq_false hx
            by_cases hy : a ≤ a0
            · have b3 : decide (a ≤ a0) = true := decide_eq_true hy
              have HT : Hid (setB l x = false) := Lib.hid (setB_no (by rw [HLN.out]; exact hlt) (by rw [HOK.out, decide_eq_false (by omega : ¬ j = 0), decide_eq_false (by omega : ¬ a0 < a), Bool.false_or, Bool.and_false, Bool.and_false]))
              clear ha hx hy
              refine wpGrow_nil ?_
              repeat (go_big_quiet_step (fail))
              refine wpQuiet_nil ?_
              clear hf0 hf1
              go_wp2_with fail
              go_ret
              exact ⟨by rw [HT.out]; rfl, HB7.out⟩
            · have b3 : decide (a ≤ a0) = false := decide_eq_false hy
              have HT : Hid (okSet l x j = true) := Lib.hid (by rw [HOK.out, decide_eq_true (by omega : 0 ≤ a), decide_eq_true (by omega : a < x), decide_eq_true (by omega : a0 < a), Bool.or_true]; rfl)
              clear ha hx hy
              refine wpGrow_nil ?_
              repeat (go_big_quiet_step (fail))
              refine wpQuiet_nil ?_
              clear hf0 hf1
              go_wp2_with fail
              exact ⟨⟨j + 1, hlt, by go_num, Lib.hid ⟨fun k hk => (by by_cases hkj : k = j; · rw [hkj]; exact HT.out
                                                                      · exact HK.out k (by omega)), HB7.out⟩⟩, by simp [intOf]; omega⟩
      · have d0 : decide ((j : Int) > 0) = false := decide_eq_false (by omega)
        have d1 : ¬ (0 : Int) < (j : Int) := by omega
        have d2 : decide ((0 : Int) < (j : Int)) = false := decide_eq_false (by omega)
        have HZ : Hid (¬ 0 < j) := Lib.hid hj0
        generalize l.getD j 0 = a at *
        by_cases ha : a < 0
        · have b0 : decide (a < 0) = true := decide_eq_true ha
          have HT : Hid (setB l x = false) := Lib.hid (setB_no (by rw [HLN.out]; exact hlt) (by rw [HOK.out, decide_eq_false (by omega), Bool.false_and]))
          clear ha
          refine wpGrow_nil ?_
          repeat (go_big_quiet_step (fail))
          refine wpQuiet_nil ?_
          clear hf0
          go_wp2_with fail
          go_ret
          exact ⟨by rw [HT.out]; rfl, HB7.out⟩
        · have b0 : decide (a < 0) = false := decide_eq_false ha
          by_cases hx : x ≤ a
          · have b1 : decide (a ≥ x) = true := decide_eq_true hx
            have b2 : decide (x ≤ a) = true := decide_eq_true hx
            have HT : Hid (setB l x = false) := Lib.hid (setB_no (by rw [HLN.out]; exact hlt) (by rw [HOK.out, decide_eq_false (by omega : ¬ a < x), Bool.false_and, Bool.and_false]))
            clear ha hx
            refine wpGrow_nil ?_
            repeat (go_big_quiet_step (fail))
            refine wpQuiet_nil ?_
            clear hf0
            go_wp2_with fail
            go_ret
            exact ⟨by rw [HT.out]; rfl, HB7.out⟩
          · have b1 : decide (a ≥ x) = false := decide_eq_false hx
            have b2 : decide (x ≤ a) = false := decide_eq_false hx
            have HT : Hid (okSet l x j = true) := Lib.hid (by rw [HOK.out, decide_eq_true (by omega : 0 ≤ a), decide_eq_true (by omega : a < x), decide_eq_true (by omega : j = 0), Bool.true_or]; rfl)
            clear ha hx
            refine wpGrow_nil ?_
            repeat (go_big_quiet_step (fail))
            refine wpQuiet_nil ?_
            clear hf0
            go_wp2_with fail
            exact ⟨⟨j + 1, hlt, by go_num, Lib.hid ⟨fun k hk => (by by_cases hkj : k = j; · rw [hkj]; exact HT.out
                                                                    · exact HK.out k (by omega)), HB7.out⟩⟩, by simp [intOf]; omega⟩
    · have hlt2 : ¬ (j : Int) < (n : Int) := by omega
      have HT : Hid (setB l x = true) := Lib.hid (setB_yes fun i hi => HQ.out.1 i (by have := HLN.out; omega))
      go_wp2_with fail
      go_ret
      exact ⟨by rw [HT.out]; rfl, HQ.out.2⟩
end Go.Proofs.Ytnmpbjgccbnomaa
/- Graphs: the walk of the reference's before. -/
namespace Go.Proofs.Ytnmpbjgccbnomaa
open Go.RowKit
/-- The order of edges. -/
def befE (a b : Edg) : Bool := if a.fr < b.fr then true else if a.fr = b.fr then decide (a.tu < b.tu) else false
set_option maxRecDepth 100000 in
set_option maxHeartbeats 4000000 in
theorem before_any11 (p q : Edg) (w : World) : Calls Try.prog 47 #[.agg p.arr, .agg q.arr] w (SaysL (.bool (befE p q)) w) := by
  have HV : Hid (befE p q = if p.fr < q.fr then true else if p.fr = q.fr then decide (p.tu < q.tu) else false) := Lib.hid rfl
  generalize befE p q = bb at HV ⊢
  have HCX : Hid (((w.alloc (.cells p.arr 27)).alloc (.cells q.arr 27)).heap[w.heap.size]? = some (.cells p.arr 27 (0, 0))) := Lib.hid ((Below.heap_alloc _ _ _ (by simp)).trans (heap_alloc_new _ _))
  have HDX : Hid (((w.alloc (.cells p.arr 27)).alloc (.cells q.arr 27)).heap[w.heap.size + 1]? = some (.cells q.arr 27 (0, 0))) := Lib.hid (heap_alloc2_new _ _ _)
  have HB : Hid (Below w.heap.size w ((w.alloc (.cells p.arr 27)).alloc (.cells q.arr 27))) := Lib.hid ((one_new w _).trans ((one_new _ _).mono (by simp)))
  go_enter Try.func47, Try.ntmps47
  have hc0 : ((w.alloc (.cells p.arr 27)).alloc (.cells q.arr 27)).cell? ⟨w.heap.size, 0, none⟩ = some (.int .i64 p.fr) := (cell_of_row _ _ 0 _ _ _ HCX.out).trans rfl
  have hc1 : ((w.alloc (.cells p.arr 27)).alloc (.cells q.arr 27)).cell? ⟨w.heap.size, 1, none⟩ = some (.int .i64 p.tu) := (cell_of_row _ _ 1 _ _ _ HCX.out).trans rfl
  have hd0 : ((w.alloc (.cells p.arr 27)).alloc (.cells q.arr 27)).cell? ⟨w.heap.size + 1, 0, none⟩ = some (.int .i64 q.fr) := (cell_of_row _ _ 0 _ _ _ HDX.out).trans rfl
  have hd1 : ((w.alloc (.cells p.arr 27)).alloc (.cells q.arr 27)).cell? ⟨w.heap.size + 1, 1, none⟩ = some (.int .i64 q.tu) := (cell_of_row _ _ 1 _ _ _ HDX.out).trans rfl
  clear HCX HDX
  by_cases e0 : p.fr < q.fr
  · have b0 : decide (p.fr < q.fr) = true := decide_eq_true e0
    rw [if_pos e0] at HV
    clear e0
    go_wp2_with fail
    go_ret
    exact ⟨by rw [HV.out]; first | done | rfl, HB.out⟩
  · have b0 : decide (p.fr < q.fr) = false := decide_eq_false e0
    rw [if_neg e0] at HV
    clear e0
    by_cases e1 : p.fr = q.fr
    · have b1 : (p.fr == q.fr) = true := by rw [e1]; simp
      rw [if_pos e1] at HV
      clear e1
      go_wp2_with fail
      go_ret
      exact ⟨by rw [HV.out]; first | done | rfl, HB.out⟩
    · have b1 : (p.fr == q.fr) = false := by rw [beq_eq_false_iff_ne]; exact e1
      rw [if_neg e1] at HV
      clear e1
      go_wp2_with fail
      go_ret
      exact ⟨by rw [HV.out]; first | done | rfl, HB.out⟩
end Go.Proofs.Ytnmpbjgccbnomaa
/- Graphs: the walks of the reference's Out and In. -/
namespace Go.Proofs.Ytnmpbjgccbnomaa
open Go.RowKit
/-- The neighbours of a key: where its edges lead, where edges to it come from. -/
def outS (l : List Edg) (key : Int) : List Int := l.flatMap fun e => if e.fr = key then [e.tu] else []
def inS (l : List Edg) (key : Int) : List Int := l.flatMap fun e => if e.tu = key then [e.fr] else []
theorem outS_snoc (l : List Edg) (key : Int) (i : Nat) (h : i < l.length) : outS (l.take (i + 1)) key = outS (l.take i) key ++ (if (l.getD i noEdg).fr = key then [(l.getD i noEdg).tu] else []) := by
  unfold outS
  rw [List.take_add_one, List.getElem?_eq_getElem h, List.flatMap_append, List.getD_eq_getElem?_getD, List.getElem?_eq_getElem h]
  simp
theorem outS_len (l : List Edg) (key : Int) (i : Nat) (h : i ≤ l.length) : (outS (l.take i) key).length ≤ i := by
  induction i with
  | zero => simp [outS]
  | succ i ih =>
    rw [outS_snoc l key i (by omega), List.length_append]
    have := ih (by omega)
    split <;> simp <;> omega
set_option maxRecDepth 100000 in
set_option maxHeartbeats 4000000 in
theorem out_any11 (A : Option Addr) (n c : Nat) (l : List Edg) (size : Int) (B : Option Addr) (m k : Nat) (key : Int) (w : World) (hl : ERow w A n c l) (hn : n ≤ 100000) : Calls Try.prog 17 #[.agg #[.int .i64 size, .slice A n c, .slice B m k], .int .i64 key] w (GivesI w (outS l key)) := by
  have HNW := Lib.hid (one_new w (.cells #[.int .i64 size, .slice A n c, .slice B m k] 25))
  have HX : Hid ((w.alloc (.cells #[.int .i64 size, .slice A n c, .slice B m k] 25)).heap[w.heap.size]? = some (.cells #[.int .i64 size, .slice A n c, .slice B m k] 25 (0, 0))) := Lib.hid (heap_alloc_new _ _)
  have HL := Lib.hid (GRow.later hl HNW.out); have HLN := Lib.hid (ERow.len hl)
  clear hl
  go_enter Try.func17, Try.ntmps17
  go_wp2_with fail
  generalize w.alloc (.cells #[.int .i64 size, .slice A n c, .slice B m k] 25) = y0 at *
  obtain ⟨g, hgg⟩ : ∃ g, w.heap.size = g := ⟨_, rfl⟩
  rw [hgg] at HX ⊢
  have HGG := Lib.hid hgg
  clear hgg
  go_loopw [5, 6] (fun v i wr => ∃ j : Nat, j ≤ n ∧ i = .int .i64 j ∧ Hid (wr.ownsRow y0.heap.size 3 1 v (outS (l.take j) key).length (intsV (outS (l.take j) key)) ∧ Below y0.heap.size y0 wr)) (fun _ i _ => n - (intOf i).toNat)
  case atStart => exact ⟨0, Nat.zero_le _, rfl, Lib.hid ⟨World.ownsRow_nil _ _ _ _, Below.refl _ _⟩⟩
  case round =>
    obtain ⟨j, hj, rfl, HQ⟩ := hrel
    obtain ⟨A1, c1, hv, -⟩ := Row.of_own HQ.out.1
    subst hv
    have HGL : Hid ((outS (l.take j) key).length ≤ 100000) := Lib.hid (Nat.le_trans (outS_len l key j (by have := HLN.out; omega)) (by omega))
    have HXR : Hid (wr.heap[g]? = some (.cells #[.int .i64 size, .slice A n c, .slice B m k] 25 (0, 0))) := Lib.hid ((HQ.out.2.block _ (Array.getElem?_eq_some_iff.1 HX.out).1).trans HX.out)
    have hg1 : wr.cell? ⟨g, 1, none⟩ = some (.slice A n c) := (cell_of_row _ _ 1 _ _ _ HXR.out).trans rfl
    by_cases hlt : j < n
    · have hlt2 : (j : Int) < (n : Int) := by omega
      have HO := Lib.hid HQ.out.1; have HB := Lib.hid HQ.out.2
      have HST := Lib.hid (outS_snoc l key j (by rw [HLN.out]; exact hlt))
      obtain ⟨b, off, hA, hc⟩ := GRow.cells Edg.len (by decide) (GRow.later HL.out HQ.out.2) noEdg j hlt
      subst hA
      have hc0 : wr.cell? ⟨b, off + j * 3, none⟩ = some (.int .i64 (l.getD j noEdg).fr) := hc 0 (by decide)
      have hc1 : wr.cell? ⟨b, off + j * 3 + 1, none⟩ = some (.int .i64 (l.getD j noEdg).tu) := hc 1 (by decide)
      clear hc HQ
      generalize (l.getD j noEdg).fr = fr at *
      generalize (l.getD j noEdg).tu = tu at *
      generalize hgu : outS (l.take j) key = U at *
      clear hgu
      by_cases hk : fr = key
      · have b0 : (fr == key) = true := by rw [hk]; simp
        rw [if_pos hk] at HST
        clear hk
        have hgl := HGL.out
        have hsz : y0.heap.size ≤ wr.heap.size := HB.out.size
        go_wp2_with (at_builtin; go_must (refine wpList_app_new wr rfl (.tmp 22) (.tmp 29) 23 3 rfl y0.heap.size Try.underlying23 i64_info rfl _ U.length (intsV U) HO.out rfl 1 #[.int .i64 tu] rfl (by simp [Value.oneCell']) rfl rfl (by unfold maxLen; omega) (by omega) hsz ?_); intro v3 w3 ho3 hb3; have HO3 := Lib.hid ho3; have HB3 := Lib.hid (HB.out.trans hb3); clear ho3 hb3)
        exact ⟨⟨j + 1, hlt, by go_num, Lib.hid (by rw [HST.out, List.length_append, intsV_app]; exact ⟨HO3.out, HB3.out⟩)⟩, by simp [intOf]; omega⟩
      · have b0 : (fr == key) = false := by rw [beq_eq_false_iff_ne]; exact hk
        rw [if_neg hk, List.append_nil] at HST
        clear hk
        go_wp2_with fail
        exact ⟨⟨j + 1, hlt, by go_num, Lib.hid ⟨by rw [HST.out]; exact HO.out, HB.out⟩⟩, by simp [intOf]; omega⟩
    · have hlt2 : ¬ (j : Int) < (n : Int) := by omega
      have HE : Hid (outS (l.take j) key = outS l key) := Lib.hid (by rw [List.take_of_length_le (by rw [HLN.out]; omega)])
      obtain ⟨A3, c3, hv3, hr3⟩ := Row.of_own HQ.out.1
      injection hv3 with hv3 _ hc3
      subst hv3 hc3
      have HB3 := Lib.hid HQ.out.2
      clear HQ
      rw [HE.out] at hr3 ⊢
      have HR3 := Lib.hid hr3; clear hr3 HE HGL
      go_wp2_with fail
      go_ret
      exact ⟨_, _, _, rfl, HR3.out, HNW.out.trans (HB3.out.mono HNW.out.size)⟩
theorem inS_snoc (l : List Edg) (key : Int) (i : Nat) (h : i < l.length) : inS (l.take (i + 1)) key = inS (l.take i) key ++ (if (l.getD i noEdg).tu = key then [(l.getD i noEdg).fr] else []) := by
  unfold inS
  rw [List.take_add_one, List.getElem?_eq_getElem h, List.flatMap_append, List.getD_eq_getElem?_getD, List.getElem?_eq_getElem h]
  simp
theorem inS_len (l : List Edg) (key : Int) (i : Nat) (h : i ≤ l.length) : (inS (l.take i) key).length ≤ i := by
  induction i with
  | zero => simp [inS]
  | succ i ih =>
    rw [inS_snoc l key i (by omega), List.length_append]
    have := ih (by omega)
    split <;> simp <;> omega
set_option maxRecDepth 100000 in
set_option maxHeartbeats 4000000 in
theorem in_any11 (A : Option Addr) (n c : Nat) (l : List Edg) (size : Int) (B : Option Addr) (m k : Nat) (key : Int) (w : World) (hl : ERow w A n c l) (hn : n ≤ 100000) : Calls Try.prog 19 #[.agg #[.int .i64 size, .slice A n c, .slice B m k], .int .i64 key] w (GivesI w (inS l key)) := by
  have HNW := Lib.hid (one_new w (.cells #[.int .i64 size, .slice A n c, .slice B m k] 25))
  have HX : Hid ((w.alloc (.cells #[.int .i64 size, .slice A n c, .slice B m k] 25)).heap[w.heap.size]? = some (.cells #[.int .i64 size, .slice A n c, .slice B m k] 25 (0, 0))) := Lib.hid (heap_alloc_new _ _)
  have HL := Lib.hid (GRow.later hl HNW.out); have HLN := Lib.hid (ERow.len hl)
  clear hl
  go_enter Try.func19, Try.ntmps19
  go_wp2_with fail
  generalize w.alloc (.cells #[.int .i64 size, .slice A n c, .slice B m k] 25) = y0 at *
  obtain ⟨g, hgg⟩ : ∃ g, w.heap.size = g := ⟨_, rfl⟩
  rw [hgg] at HX ⊢
  have HGG := Lib.hid hgg
  clear hgg
  go_loopw [5, 6] (fun v i wr => ∃ j : Nat, j ≤ n ∧ i = .int .i64 j ∧ Hid (wr.ownsRow y0.heap.size 3 1 v (inS (l.take j) key).length (intsV (inS (l.take j) key)) ∧ Below y0.heap.size y0 wr)) (fun _ i _ => n - (intOf i).toNat)
  case atStart => exact ⟨0, Nat.zero_le _, rfl, Lib.hid ⟨World.ownsRow_nil _ _ _ _, Below.refl _ _⟩⟩
  case round =>
    obtain ⟨j, hj, rfl, HQ⟩ := hrel
    obtain ⟨A1, c1, hv, -⟩ := Row.of_own HQ.out.1
    subst hv
    have HGL : Hid ((inS (l.take j) key).length ≤ 100000) := Lib.hid (Nat.le_trans (inS_len l key j (by have := HLN.out; omega)) (by omega))
    have HXR : Hid (wr.heap[g]? = some (.cells #[.int .i64 size, .slice A n c, .slice B m k] 25 (0, 0))) := Lib.hid ((HQ.out.2.block _ (Array.getElem?_eq_some_iff.1 HX.out).1).trans HX.out)
    have hg1 : wr.cell? ⟨g, 1, none⟩ = some (.slice A n c) := (cell_of_row _ _ 1 _ _ _ HXR.out).trans rfl
    by_cases hlt : j < n
    · have hlt2 : (j : Int) < (n : Int) := by omega
      have HO := Lib.hid HQ.out.1; have HB := Lib.hid HQ.out.2
      have HST := Lib.hid (inS_snoc l key j (by rw [HLN.out]; exact hlt))
      obtain ⟨b, off, hA, hc⟩ := GRow.cells Edg.len (by decide) (GRow.later HL.out HQ.out.2) noEdg j hlt
      subst hA
      have hc1 : wr.cell? ⟨b, off + j * 3 + 1, none⟩ = some (.int .i64 (l.getD j noEdg).tu) := hc 1 (by decide)
      have hc0 : wr.cell? ⟨b, off + j * 3, none⟩ = some (.int .i64 (l.getD j noEdg).fr) := hc 0 (by decide)
      clear hc HQ
      generalize (l.getD j noEdg).tu = fr at *
      generalize (l.getD j noEdg).fr = tu at *
      generalize hgu : inS (l.take j) key = U at *
      clear hgu
      by_cases hk : fr = key
      · have b0 : (fr == key) = true := by rw [hk]; simp
        rw [if_pos hk] at HST
        clear hk
        have hgl := HGL.out
        have hsz : y0.heap.size ≤ wr.heap.size := HB.out.size
        go_wp2_with (at_builtin; go_must (refine wpList_app_new wr rfl (.tmp 22) (.tmp 29) 23 3 rfl y0.heap.size Try.underlying23 i64_info rfl _ U.length (intsV U) HO.out rfl 1 #[.int .i64 tu] rfl (by simp [Value.oneCell']) rfl rfl (by unfold maxLen; omega) (by omega) hsz ?_); intro v3 w3 ho3 hb3; have HO3 := Lib.hid ho3; have HB3 := Lib.hid (HB.out.trans hb3); clear ho3 hb3)
        exact ⟨⟨j + 1, hlt, by go_num, Lib.hid (by rw [HST.out, List.length_append, intsV_app]; exact ⟨HO3.out, HB3.out⟩)⟩, by simp [intOf]; omega⟩
      · have b0 : (fr == key) = false := by rw [beq_eq_false_iff_ne]; exact hk
        rw [if_neg hk, List.append_nil] at HST
        clear hk
        go_wp2_with fail
        exact ⟨⟨j + 1, hlt, by go_num, Lib.hid ⟨by rw [HST.out]; exact HO.out, HB.out⟩⟩, by simp [intOf]; omega⟩
    · have hlt2 : ¬ (j : Int) < (n : Int) := by omega
      have HE : Hid (inS (l.take j) key = inS l key) := Lib.hid (by rw [List.take_of_length_le (by rw [HLN.out]; omega)])
      obtain ⟨A3, c3, hv3, hr3⟩ := Row.of_own HQ.out.1
      injection hv3 with hv3 _ hc3
      subst hv3 hc3
      have HB3 := Lib.hid HQ.out.2
      clear HQ
      rw [HE.out] at hr3 ⊢
      have HR3 := Lib.hid hr3; clear hr3 HE HGL
      go_wp2_with fail
      go_ret
      exact ⟨_, _, _, rfl, HR3.out, HNW.out.trans (HB3.out.mono HNW.out.size)⟩
end Go.Proofs.Ytnmpbjgccbnomaa
/- Graphs: the walk of the reference's Same. -/
namespace Go.Proofs.Ytnmpbjgccbnomaa
open Go.RowKit
/-- Whether two edges are the same. -/
def sameE (a b : Edg) : Bool := (a.fr == b.fr) && ((a.tu == b.tu) && (a.lv == b.lv))
theorem sameE_iff (a b : Edg) : sameE a b = true ↔ a = b := by
  obtain ⟨a0, a1, a2⟩ := a
  obtain ⟨b0, b1, b2⟩ := b
  simp [sameE]
def sameEs (l m : List Edg) : Bool := (List.range l.length).all fun i => sameE (l.getD i noEdg) (m.getD i noEdg)
theorem sameEs_no {l m : List Edg} {i : Nat} (hi : i < l.length) (h : sameE (l.getD i noEdg) (m.getD i noEdg) = false) : sameEs l m = false := by
  unfold sameEs
  rw [List.all_eq_false]
  exact ⟨i, List.mem_range.2 hi, by rw [h]; decide⟩
theorem sameEs_yes {l m : List Edg} (h : ∀ i, i < l.length → sameE (l.getD i noEdg) (m.getD i noEdg) = true) : sameEs l m = true := by
  unfold sameEs
  rw [List.all_eq_true]
  exact fun i hi => h i (List.mem_range.1 hi)
/-- Whether two graphs are the same. -/
def sameG (s1 : Int) (e1 : List Edg) (g1 : List Int) (s2 : Int) (e2 : List Edg) (g2 : List Int) : Bool := if s1 = s2 then (if e1.length = e2.length then (if sameIB g1 g2 then sameEs e1 e2 else false) else false) else false
theorem ERow.three {w : World} {A : Option Addr} {n c : Nat} {l : List Edg} (h : ERow w A n c l) (i : Nat) (hi : i < n) : ∃ b off, A = some ⟨b, off, none⟩ ∧ w.cell? ⟨b, off + i * 3, none⟩ = some (.int .i64 (l.getD i noEdg).fr) ∧ w.cell? ⟨b, off + i * 3 + 1, none⟩ = some (.int .i64 (l.getD i noEdg).tu) ∧ w.cell? ⟨b, off + i * 3 + 2, none⟩ = some (.int .i64 (l.getD i noEdg).lv) := by
  obtain ⟨b, off, hA, hc⟩ := GRow.cells Edg.len (by decide) h noEdg i hi
  exact ⟨b, off, hA, hc 0 (by decide), hc 1 (by decide), hc 2 (by decide)⟩
set_option maxRecDepth 100000 in
set_option maxHeartbeats 4000000 in
theorem gsame_any (s1 : Int) (A : Option Addr) (n c : Nat) (e1 : List Edg) (B : Option Addr) (m k : Nat) (g1 : List Int) (s2 : Int) (A2 : Option Addr) (n2 c2 : Nat) (e2 : List Edg) (B2 : Option Addr) (m2 k2 : Nat) (g2 : List Int) (w : World) (h1 : ERow w A n c e1) (h2 : IRow w B m k g1) (h3 : ERow w A2 n2 c2 e2) (h4 : IRow w B2 m2 k2 g2) (hn : n ≤ 100000) (hm : m ≤ 100000) :
    Calls Try.prog 9 #[.agg #[.int .i64 s1, .slice A n c, .slice B m k], .agg #[.int .i64 s2, .slice A2 n2 c2, .slice B2 m2 k2]] w (SaysL (.bool (sameG s1 e1 g1 s2 e2 g2)) w) := by
  have HV : Hid (sameG s1 e1 g1 s2 e2 g2 = if s1 = s2 then (if n = n2 then (if sameIB g1 g2 then sameEs e1 e2 else false) else false) else false) := Lib.hid (by unfold sameG; rw [h1.len, h3.len])
  generalize sameG s1 e1 g1 s2 e2 g2 = bb at HV ⊢
  have HB0 : Hid (Below w.heap.size w ((w.alloc (.cells #[.int .i64 s1, .slice A n c, .slice B m k] 25)).alloc (.cells #[.int .i64 s2, .slice A2 n2 c2, .slice B2 m2 k2] 25))) := Lib.hid ((one_new w _).trans ((one_new _ _).mono (by simp)))
  have HX : Hid (((w.alloc (.cells #[.int .i64 s1, .slice A n c, .slice B m k] 25)).alloc (.cells #[.int .i64 s2, .slice A2 n2 c2, .slice B2 m2 k2] 25)).heap[w.heap.size]? = some (.cells #[.int .i64 s1, .slice A n c, .slice B m k] 25 (0, 0))) := Lib.hid ((Below.heap_alloc _ _ _ (by simp)).trans (heap_alloc_new _ _))
  have HY : Hid (((w.alloc (.cells #[.int .i64 s1, .slice A n c, .slice B m k] 25)).alloc (.cells #[.int .i64 s2, .slice A2 n2 c2, .slice B2 m2 k2] 25)).heap[w.heap.size + 1]? = some (.cells #[.int .i64 s2, .slice A2 n2 c2, .slice B2 m2 k2] 25 (0, 0))) := Lib.hid (heap_alloc2_new _ _ _)
  have H1 := Lib.hid (GRow.later h1 HB0.out); have H2 := Lib.hid (h2.later HB0.out); have H3 := Lib.hid (GRow.later h3 HB0.out); have H4 := Lib.hid (h4.later HB0.out)
  have HLN := Lib.hid (ERow.len h1)
  clear h1 h2 h3 h4
  go_enter Try.func9, Try.ntmps9
  have hc0 : ((w.alloc (.cells #[.int .i64 s1, .slice A n c, .slice B m k] 25)).alloc (.cells #[.int .i64 s2, .slice A2 n2 c2, .slice B2 m2 k2] 25)).cell? ⟨w.heap.size, 0, none⟩ = some (.int .i64 s1) := (cell_of_row _ _ 0 _ _ _ HX.out).trans rfl
  have hc1 : ((w.alloc (.cells #[.int .i64 s1, .slice A n c, .slice B m k] 25)).alloc (.cells #[.int .i64 s2, .slice A2 n2 c2, .slice B2 m2 k2] 25)).cell? ⟨w.heap.size, 1, none⟩ = some (.slice A n c) := (cell_of_row _ _ 1 _ _ _ HX.out).trans rfl
  have hc2 : ((w.alloc (.cells #[.int .i64 s1, .slice A n c, .slice B m k] 25)).alloc (.cells #[.int .i64 s2, .slice A2 n2 c2, .slice B2 m2 k2] 25)).cell? ⟨w.heap.size, 2, none⟩ = some (.slice B m k) := (cell_of_row _ _ 2 _ _ _ HX.out).trans rfl
  have hd0 : ((w.alloc (.cells #[.int .i64 s1, .slice A n c, .slice B m k] 25)).alloc (.cells #[.int .i64 s2, .slice A2 n2 c2, .slice B2 m2 k2] 25)).cell? ⟨w.heap.size + 1, 0, none⟩ = some (.int .i64 s2) := (cell_of_row _ _ 0 _ _ _ HY.out).trans rfl
  have hd1 : ((w.alloc (.cells #[.int .i64 s1, .slice A n c, .slice B m k] 25)).alloc (.cells #[.int .i64 s2, .slice A2 n2 c2, .slice B2 m2 k2] 25)).cell? ⟨w.heap.size + 1, 1, none⟩ = some (.slice A2 n2 c2) := (cell_of_row _ _ 1 _ _ _ HY.out).trans rfl
  have hd2 : ((w.alloc (.cells #[.int .i64 s1, .slice A n c, .slice B m k] 25)).alloc (.cells #[.int .i64 s2, .slice A2 n2 c2, .slice B2 m2 k2] 25)).cell? ⟨w.heap.size + 1, 2, none⟩ = some (.slice B2 m2 k2) := (cell_of_row _ _ 2 _ _ _ HY.out).trans rfl
  by_cases hs : s1 = s2
  · have b0 : (s1 != s2) = false := by rw [hs]; simp
    rw [if_pos hs] at HV
    clear hs
    by_cases hnn : n = n2
    · have b1 : ((n : Int) != (n2 : Int)) = false := by rw [hnn]; simp
      rw [if_pos hnn] at HV
      have HNN := Lib.hid hnn
      clear hnn
      go_wp2_with fail
      clear hc0 hc1 hc2 hd0 hd1 hd2 b0 b1
      generalize ((w.alloc (.cells #[.int .i64 s1, .slice A n c, .slice B m k] 25)).alloc (.cells #[.int .i64 s2, .slice A2 n2 c2, .slice B2 m2 k2] 25)) = y0 at *
      obtain ⟨g, hgg⟩ : ∃ g, w.heap.size = g := ⟨_, rfl⟩
      rw [hgg] at HX HY ⊢
      have HGG := Lib.hid hgg
      clear hgg
      refine (sameInts_any B m k g1 B2 m2 k2 g2 y0 H2.out H4.out (by omega)).mono ?_
      rintro e w1 ⟨rfl, hb⟩
      have HB1 := Lib.hid hb
      clear hb H2 H4
      cases hsi : sameIB g1 g2
      · rw [hsi, if_neg (by decide)] at HV
        clear hsi
        go_wp2_with fail
        go_ret
        exact ⟨by rw [HV.out]; rfl, HB0.out.trans (HB1.out.mono HB0.out.size)⟩
      · rw [hsi, if_pos rfl] at HV
        clear hsi
        go_wp2_with fail
        go_loopw [5] (fun i wr => ∃ j : Nat, j ≤ n ∧ i = .int .i64 j ∧ Hid ((∀ q, q < j → sameE (e1.getD q noEdg) (e2.getD q noEdg) = true) ∧ Below y0.heap.size y0 wr)) (fun i _ => n - (intOf i).toNat)
        case atStart => exact ⟨0, Nat.zero_le _, rfl, Lib.hid ⟨fun q h => absurd h (Nat.not_lt_zero _), HB1.out⟩⟩
        case round =>
          clear HB1
          obtain ⟨j, hj, rfl, HQ⟩ := hrel
          have HXR : Hid (wr.heap[g]? = some (.cells #[.int .i64 s1, .slice A n c, .slice B m k] 25 (0, 0))) := Lib.hid ((HQ.out.2.block _ (Array.getElem?_eq_some_iff.1 HX.out).1).trans HX.out)
          have HYR : Hid (wr.heap[g + 1]? = some (.cells #[.int .i64 s2, .slice A2 n2 c2, .slice B2 m2 k2] 25 (0, 0))) := Lib.hid ((HQ.out.2.block _ (Array.getElem?_eq_some_iff.1 HY.out).1).trans HY.out)
          have hc1 : wr.cell? ⟨g, 1, none⟩ = some (.slice A n c) := (cell_of_row _ _ 1 _ _ _ HXR.out).trans rfl
          have hd1 : wr.cell? ⟨g + 1, 1, none⟩ = some (.slice A2 n2 c2) := (cell_of_row _ _ 1 _ _ _ HYR.out).trans rfl
          by_cases hlt : j < n
          · have hlt2 : (j : Int) < (n : Int) := by omega
            obtain ⟨b1, o1, hA, hx0, hx1, hx2⟩ := ERow.three (GRow.later H1.out HQ.out.2) j hlt
            obtain ⟨b2, o2, hB, hy0, hy1, hy2⟩ := ERow.three (GRow.later H3.out HQ.out.2) j (by rw [← HNN.out]; exact hlt)
            subst hA hB
            have hlt3 : (j : Int) < (n2 : Int) := by rw [← HNN.out]; exact hlt2
            have HK := Lib.hid HQ.out.1; have HB7 := Lib.hid HQ.out.2
            clear HQ
            have HT0 : Hid (sameE (e1.getD j noEdg) (e2.getD j noEdg) = false → bb = false) := Lib.hid fun h => by rw [HV.out]; exact sameEs_no (by rw [HLN.out]; exact hlt) h
            obtain ⟨ok, hok⟩ : ∃ ok, sameE (e1.getD j noEdg) (e2.getD j noEdg) = ok := ⟨_, rfl⟩
            have HOK := Lib.hid hok
            rw [hok] at HT0
            unfold sameE at hok
            generalize (e1.getD j noEdg).fr = x0 at *
            generalize (e1.getD j noEdg).tu = x1 at *
            generalize (e1.getD j noEdg).lv = x2 at *
            generalize (e2.getD j noEdg).fr = y0' at *
            generalize (e2.getD j noEdg).tu = y1 at *
            generalize (e2.getD j noEdg).lv = y2 at *
            by_cases k0 : x0 = y0'
            · subst k0
              by_cases k1 : x1 = y1
              · subst k1
                by_cases k2 : x2 = y2
                · subst k2
                  have hok2 : ok = true := by rw [← hok]; simp
                  subst hok2
                  clear hok
                  go_wp2_with fail
                  go_quiet (fail)
                  go_wp2
                  exact ⟨⟨j + 1, hlt, by go_num, Lib.hid ⟨fun q hq => (by by_cases hqj : q = j; · rw [hqj]; exact HOK.out
                                                                          · exact HK.out q (by omega)), below_nq HB7.out _⟩⟩, by simp [intOf]; omega⟩
                · have b0 : (x2 == y2) = false := by rw [beq_eq_false_iff_ne]; exact k2
                  have HT := Lib.hid (HT0.out (by rw [← hok, b0]; simp))
                  clear hok k2
                  go_wp2_with fail
                  go_quiet (fail)
                  go_wp2
                  go_ret
                  exact ⟨by rw [HT.out]; rfl, HB0.out.trans ((below_nq HB7.out _).mono HB0.out.size)⟩
              · have b0 : (x1 == y1) = false := by rw [beq_eq_false_iff_ne]; exact k1
                have HT := Lib.hid (HT0.out (by rw [← hok, b0]; simp))
                clear hok k1
                go_wp2_with fail
                go_quiet (fail)
                go_wp2
                go_ret
                exact ⟨by rw [HT.out]; rfl, HB0.out.trans ((below_nq HB7.out _).mono HB0.out.size)⟩
            · have b0 : (x0 == y0') = false := by rw [beq_eq_false_iff_ne]; exact k0
              have HT := Lib.hid (HT0.out (by rw [← hok, b0]; simp))
              clear hok k0
              go_wp2_with fail
              go_quiet (fail)
              go_wp2
              go_ret
              exact ⟨by rw [HT.out]; rfl, HB0.out.trans ((below_nq HB7.out _).mono HB0.out.size)⟩
          · have hlt2 : ¬ (j : Int) < (n : Int) := by omega
            have HT : Hid (bb = true) := Lib.hid (by rw [HV.out]; exact sameEs_yes fun q hq => HQ.out.1 q (by have := HLN.out; omega))
            go_wp2_with fail
            go_ret
            exact ⟨by rw [HT.out]; rfl, HB0.out.trans (HQ.out.2.mono HB0.out.size)⟩
    · have b1 : ((n : Int) != (n2 : Int)) = true := by rw [bne_iff_ne]; omega
      rw [if_neg hnn] at HV
      clear hnn
      go_wp2_with fail
      go_ret
      exact ⟨by rw [HV.out]; rfl, HB0.out⟩
  · have b0 : (s1 != s2) = true := by rw [bne_iff_ne]; exact hs
    rw [if_neg hs] at HV
    clear hs
    go_wp2_with fail
    go_ret
    exact ⟨by rw [HV.out]; rfl, HB0.out⟩
end Go.Proofs.Ytnmpbjgccbnomaa
/- Graphs: what the functions of layer 11 give. Plain facts. -/
namespace Go.Proofs.Ytnmpbjgccbnomaa
open Go.RowKit
/-- A graph. -/
structure Gr where
  sz : Int
  es : List Edg
  gn : List Int
def noGr : Gr := ⟨0, [], []⟩
def keyB (z k : Int) : Bool := decide (0 ≤ k) && decide (k < z)
/-- Whether an edge's ends are two keys of those below z. -/
def endsB (z : Int) (e : Edg) : Bool := keyB z e.fr && (keyB z e.tu && !decide (e.fr = e.tu))
def levB (e : Edg) : Bool := decide (1 ≤ e.lv) && decide (e.lv ≤ 3)
def nextB (l : List Edg) (i : Nat) : Bool := decide (i = 0) || befE (l.getD (i - 1) noEdg) (l.getD i noEdg)
def freeB (g : List Int) (e : Edg) : Bool := !hasI g e.fr && !hasI g e.tu
def okE (G : Gr) (i : Nat) : Bool := endsB G.sz (G.es.getD i noEdg) && (levB (G.es.getD i noEdg) && (nextB G.es i && freeB G.gn (G.es.getD i noEdg)))
def headB (G : Gr) : Bool := decide (0 ≤ G.sz) && (decide (G.sz ≤ 64) && (decide (G.es.length ≤ 500) && setB G.gn G.sz))
def okG (G : Gr) : Bool := headB G && (List.range G.es.length).all (okE G)
/-- What Check says. -/
def checkG (G : Gr) : Int := if okG G then 0 else 14
theorem okG_head {G : Gr} (h : headB G = false) : okG G = false := by unfold okG; rw [h]; rfl
theorem okG_no {G : Gr} {i : Nat} (hi : i < G.es.length) (h : okE G i = false) : okG G = false := by
  unfold okG
  rw [Bool.and_eq_false_iff]
  right
  rw [List.all_eq_false]
  exact ⟨i, List.mem_range.2 hi, by rw [h]; decide⟩
theorem okG_yes {G : Gr} (h0 : headB G = true) (h : ∀ i, i < G.es.length → okE G i = true) : okG G = true := by
  unfold okG
  rw [h0, Bool.true_and, List.all_eq_true]
  exact fun i hi => h i (List.mem_range.1 hi)
/-- The place of an edge, or where it would stand. -/
def idxE (x : Edg) : List Edg → Nat
  | [] => 0
  | e :: m => if befE e x then idxE x m + 1 else 0
def thereE (x : Edg) (l : List Edg) : Bool := decide (idxE x l < l.length) && (decide ((l.getD (idxE x l) noEdg).fr = x.fr) && decide ((l.getD (idxE x l) noEdg).tu = x.tu))
theorem idxE_le (x : Edg) : ∀ l : List Edg, idxE x l ≤ l.length
  | [] => Nat.le_refl _
  | e :: m => by
    unfold idxE
    have := idxE_le x m
    split
    · simp only [List.length_cons]; omega
    · exact Nat.zero_le _
theorem idxE_low (x : Edg) : ∀ (l : List Edg) (i : Nat), i < idxE x l → befE (l.getD i noEdg) x = true
  | [], i, h => absurd h (Nat.not_lt_zero _)
  | e :: m, i, h => by
    unfold idxE at h
    split at h
    · rename_i hb
      cases i with
      | zero => exact hb
      | succ i => rw [List.getD_cons_succ]; exact idxE_low x m i (by omega)
    · exact absurd h (Nat.not_lt_zero _)
theorem idxE_at (x : Edg) : ∀ l : List Edg, idxE x l < l.length → befE (l.getD (idxE x l) noEdg) x = false
  | [], h => absurd h (Nat.not_lt_zero _)
  | e :: m, h => by
    unfold idxE at h ⊢
    split
    · rename_i hb
      rw [if_pos hb] at h
      rw [List.getD_cons_succ]
      exact idxE_at x m (by simpa using h)
    · rename_i hb
      simpa using hb
theorem idxE_eq {x : Edg} {l : List Edg} {k : Nat} (hk : k ≤ l.length) (h1 : ∀ i, i < k → befE (l.getD i noEdg) x = true) (h2 : k < l.length → befE (l.getD k noEdg) x = false) : idxE x l = k := by
  rcases Nat.lt_trichotomy (idxE x l) k with h | h | h
  · have := idxE_at x l (by omega)
    rw [h1 _ h] at this
    cases this
  · exact h
  · have h3 := idxE_low x l k h
    have := idxE_le x l
    rw [h2 (by omega)] at h3
    cases h3
def withG (G : Gr) (e : Edg) : Gr × Int :=
  if okG G = false then (noGr, 14) else if endsB G.sz e = false then (noGr, 4) else if freeB G.gn e = false then (noGr, 4) else if levB e = false then (noGr, 2) else if thereE e G.es then (noGr, 19)
  else if G.es.length = 500 then (noGr, 3) else (⟨G.sz, G.es.take (idxE e G.es) ++ e :: G.es.drop (idxE e G.es), G.gn⟩, 0)
def withoutG (G : Gr) (fr tu : Int) : Gr × Int :=
  if okG G = false then (noGr, 14) else if thereE ⟨fr, tu, 0⟩ G.es then (⟨G.sz, G.es.take (idxE ⟨fr, tu, 0⟩ G.es) ++ G.es.drop (idxE ⟨fr, tu, 0⟩ G.es + 1), G.gn⟩, 0) else (noGr, 19)
def levelG (G : Gr) (lv : Int) : Gr := ⟨G.sz, G.es.filter (fun e => decide (lv ≤ e.lv)), G.gn⟩
/-- A graph as a value. -/
def GHold (w : World) (G : Gr) (v : Value) : Prop := ∃ A n c B m k, v = .agg #[.int .i64 G.sz, .slice A n c, .slice B m k] ∧ ERow w A n c G.es ∧ IRow w B m k G.gn
theorem GHold.later {w w' : World} {G : Gr} {v : Value} (h : GHold w G v) (hb : Later w w') : GHold w' G v := by
  obtain ⟨A, n, c, B, m, k, rfl, h1, h2⟩ := h
  exact ⟨A, n, c, B, m, k, rfl, GRow.later h1 hb, h2.later hb⟩
/-- A graph whose lists lie in blocks from B on. -/
def GOwn (w : World) (B : Nat) (G : Gr) (v : Value) : Prop := ∃ e g, v = .agg #[.int .i64 G.sz, e, g] ∧ w.ownsRow B 27 3 e G.es.length (rowC Edg.cells G.es) ∧ w.ownsRow B 3 1 g G.gn.length (intsV G.gn)
theorem GOwn.hold {w : World} {B : Nat} {G : Gr} {v : Value} (h : GOwn w B G v) : GHold w G v := by
  obtain ⟨e, g, rfl, h1, h2⟩ := h
  obtain ⟨A, c, rfl, hr⟩ := Row.of_own h1
  obtain ⟨A2, c2, rfl, hr2⟩ := Row.of_own h2
  exact ⟨_, _, _, _, _, _, rfl, hr, hr2⟩
theorem GOwn.later {w w' : World} {B : Nat} {G : Gr} {v : Value} (h : GOwn w B G v) (hb : Below w.heap.size w w') : GOwn w' B G v := by
  obtain ⟨e, g, rfl, h1, h2⟩ := h
  exact ⟨e, g, rfl, own_later h1 hb, own_later h2 hb⟩
theorem GOwn.none (w : World) (B : Nat) : GOwn w B noGr (.agg #[.int .i64 0, .slice none 0 0, .slice none 0 0]) := ⟨_, _, rfl, World.ownsRow_nil _ _ _ _, World.ownsRow_nil _ _ _ _⟩
/-- A call that gives a graph; one that gives a graph of its own; and those with an error. -/
def GivesG (w : World) (G : Gr) (x : Ending) (w' : World) : Prop := ∃ v, x = .returned v ∧ GHold w' G v ∧ Below w.heap.size w w'
def GivesGO (w : World) (G : Gr) (x : Ending) (w' : World) : Prop := ∃ v, x = .returned v ∧ GOwn w' w.heap.size G v ∧ Below w.heap.size w w'
def GivesGE (w : World) (r : Gr × Int) (x : Ending) (w' : World) : Prop := ∃ v, x = .returned (.tuple #[v, .int .i64 r.2]) ∧ GHold w' r.1 v ∧ Below w.heap.size w w'
def GivesGOE (w : World) (r : Gr × Int) (x : Ending) (w' : World) : Prop := ∃ v, x = .returned (.tuple #[v, .int .i64 r.2]) ∧ GOwn w' w.heap.size r.1 v ∧ Below w.heap.size w w'
theorem GivesGOE.weak {w w' : World} {r : Gr × Int} {x : Ending} (h : GivesGOE w r x w') : GivesGE w r x w' := by
  obtain ⟨v, h1, h2, h3⟩ := h
  exact ⟨v, h1, h2.hold, h3⟩
end Go.Proofs.Ytnmpbjgccbnomaa
/- Graphs: valid ones, and what comes of adding and taking away an edge. Plain facts. -/
namespace Go.Proofs.Ytnmpbjgccbnomaa
open Go.RowKit
def ltE (a b : Edg) : Prop := a.fr < b.fr ∨ (a.fr = b.fr ∧ a.tu < b.tu)
theorem befE_iff (a b : Edg) : befE a b = true ↔ ltE a b := by
  unfold befE ltE
  by_cases h : a.fr < b.fr
  · rw [if_pos h]; simp [h]
  · rw [if_neg h]
    by_cases k : a.fr = b.fr
    · rw [if_pos k]; simp [k]
    · rw [if_neg k]; simp [h, k]
theorem ltE_trans {a b c : Edg} (h : ltE a b) (k : ltE b c) : ltE a c := by unfold ltE at *; omega
theorem getDE {l : List Edg} {i : Nat} (h : i < l.length) : l.getD i noEdg = l[i] := by rw [List.getD_eq_getElem?_getD, List.getElem?_eq_getElem h]; rfl
theorem memE {l : List Edg} {y : Edg} : y ∈ l ↔ ∃ i, i < l.length ∧ l.getD i noEdg = y := by
  rw [List.mem_iff_getElem]
  constructor
  · rintro ⟨i, hi, he⟩; exact ⟨i, hi, by rw [getDE hi]; exact he⟩
  · rintro ⟨i, hi, he⟩; exact ⟨i, hi, by rw [← getDE hi]; exact he⟩
theorem asc_pair {α : Type} {r : α → α → Prop} (ht : ∀ a b c, r a b → r b c → r a c) : ∀ {l : List α}, (∀ i (h : i + 1 < l.length), r l[i] l[i + 1]) → l.Pairwise r
  | [], _ => List.Pairwise.nil
  | a :: l, h => by
    have ih : l.Pairwise r := asc_pair ht fun i hi => by have := h (i + 1) (by simpa using hi); simpa using this
    refine List.Pairwise.cons (fun b hb => ?_) ih
    cases l with
    | nil => cases hb
    | cons c m =>
      have h0 : r a c := by have := h 0 (by simp); simpa using this
      rcases List.mem_cons.1 hb with rfl | hb
      · exact h0
      · exact ht _ _ _ h0 ((List.pairwise_cons.1 ih).1 b hb)
theorem pair_at {α : Type} {r : α → α → Prop} {l : List α} (h : l.Pairwise r) {i j : Nat} (hij : i < j) (hj : j < l.length) : r l[i] l[j] := List.pairwise_iff_getElem.1 h i j (by omega) hj hij
/-- A valid graph. -/
structure Good11 (G : Gr) : Prop where
  lo : 0 ≤ G.sz
  hi : G.sz ≤ 64
  len : G.es.length ≤ 500
  set : setB G.gn G.sz = true
  ends : ∀ e ∈ G.es, endsB G.sz e = true
  lev : ∀ e ∈ G.es, levB e = true
  asc : G.es.Pairwise ltE
  free : ∀ e ∈ G.es, freeB G.gn e = true
theorem okG_iff (G : Gr) : okG G = true ↔ Good11 G := by
  constructor
  · intro h
    unfold okG at h
    rw [Bool.and_eq_true, List.all_eq_true] at h
    obtain ⟨h0, h1⟩ := h
    unfold headB at h0
    rw [Bool.and_eq_true, Bool.and_eq_true, Bool.and_eq_true, decide_eq_true_eq, decide_eq_true_eq, decide_eq_true_eq] at h0
    have hk : ∀ i, i < G.es.length → endsB G.sz (G.es.getD i noEdg) = true ∧ levB (G.es.getD i noEdg) = true ∧ nextB G.es i = true ∧ freeB G.gn (G.es.getD i noEdg) = true := fun i hi => by
      have := h1 i (List.mem_range.2 hi)
      unfold okE at this
      rw [Bool.and_eq_true, Bool.and_eq_true, Bool.and_eq_true] at this
      exact this
    refine ⟨h0.1, h0.2.1, h0.2.2.1, h0.2.2.2, fun e he => ?_, fun e he => ?_, ?_, fun e he => ?_⟩
    · obtain ⟨i, hi, rfl⟩ := memE.1 he; exact (hk i hi).1
    · obtain ⟨i, hi, rfl⟩ := memE.1 he; exact (hk i hi).2.1
    · refine asc_pair (r := ltE) (fun _ _ _ h k => ltE_trans h k) fun i hi => ?_
      have := (hk (i + 1) hi).2.2.1
      unfold nextB at this
      rw [Bool.or_eq_true, decide_eq_true_eq] at this
      rcases this with h | h
      · exact absurd h (Nat.succ_ne_zero _)
      · rw [befE_iff, Nat.add_sub_cancel, getDE (by omega), getDE hi] at h; exact h
    · obtain ⟨i, hi, rfl⟩ := memE.1 he; exact (hk i hi).2.2.2
  · intro h
    refine okG_yes ?_ fun i hi => ?_
    · unfold headB
      rw [decide_eq_true h.lo, decide_eq_true h.hi, decide_eq_true h.len, h.set]; rfl
    · have hm : G.es.getD i noEdg ∈ G.es := memE.2 ⟨i, hi, rfl⟩
      unfold okE nextB
      rw [h.ends _ hm, h.lev _ hm, h.free _ hm]
      by_cases h0 : i = 0
      · rw [decide_eq_true h0]; rfl
      · have : befE (G.es.getD (i - 1) noEdg) (G.es.getD i noEdg) = true := by
          rw [befE_iff, getDE (by omega), getDE hi]
          exact pair_at h.asc (by omega) hi
        rw [this]; simp
/-- Where an edge stands among ascending ones. -/
theorem idx_below {l : List Edg} {x e : Edg} (he : e ∈ l.take (idxE x l)) : ltE e x := by
  obtain ⟨i, hi, rfl⟩ := memE.1 he
  rw [List.length_take] at hi
  have h1 := idxE_low x l i (by omega)
  rw [befE_iff] at h1
  rwa [List.getD_eq_getElem?_getD, List.getElem?_take_of_lt (by omega), ← List.getD_eq_getElem?_getD]
theorem idx_above {l : List Edg} {x e : Edg} (hl : l.Pairwise ltE) (hn : thereE x l = false) (he : e ∈ l.drop (idxE x l)) : ltE x e := by
  obtain ⟨i, hi, rfl⟩ := memE.1 he
  rw [List.length_drop] at hi
  have hlt : idxE x l < l.length := by omega
  have h1 := idxE_at x l hlt
  have h2 : ¬ ltE (l.getD (idxE x l) noEdg) x := by rw [← befE_iff, h1]; decide
  have h3 : ¬ ((l.getD (idxE x l) noEdg).fr = x.fr ∧ (l.getD (idxE x l) noEdg).tu = x.tu) := fun q => by
    unfold thereE at hn
    rw [decide_eq_true hlt, decide_eq_true q.1, decide_eq_true q.2] at hn
    cases hn
  have h4 : ltE x (l.getD (idxE x l) noEdg) := by unfold ltE at *; omega
  rw [List.getD_eq_getElem?_getD, List.getElem?_drop, ← List.getD_eq_getElem?_getD]
  by_cases h0 : i = 0
  · rw [h0, Nat.add_zero]; exact h4
  · refine ltE_trans h4 ?_
    rw [getDE hlt, getDE (by omega)]
    exact pair_at hl (by omega) (by omega)
theorem with_good {G : Gr} {e : Edg} (h : (withG G e).2 = 0) : Good11 G ∧ Good11 (withG G e).1 ∧ (withG G e).1 = ⟨G.sz, G.es.take (idxE e G.es) ++ e :: G.es.drop (idxE e G.es), G.gn⟩ ∧ thereE e G.es = false := by
  unfold withG at h ⊢
  split at h
  · exact absurd h (by decide)
  · rename_i h0
    rw [if_neg h0]
    split at h
    · exact absurd h (by decide)
    · rename_i h1
      rw [if_neg h1]
      split at h
      · exact absurd h (by decide)
      · rename_i h2
        rw [if_neg h2]
        split at h
        · exact absurd h (by decide)
        · rename_i h3
          rw [if_neg h3]
          split at h
          · exact absurd h (by decide)
          · rename_i h4
            rw [if_neg h4]
            split at h
            · exact absurd h (by decide)
            · rename_i h5
              rw [if_neg h5]
              have hG := (okG_iff G).1 (by simpa using h0)
              have hn : thereE e G.es = false := by simpa using h4
              have hm : ∀ y, y ∈ G.es.take (idxE e G.es) ++ e :: G.es.drop (idxE e G.es) → y = e ∨ y ∈ G.es := fun y hy => by
                rcases List.mem_append.1 hy with hy | hy
                · exact .inr (List.mem_of_mem_take hy)
                · rcases List.mem_cons.1 hy with hy | hy
                  · exact .inl hy
                  · exact .inr (List.mem_of_mem_drop hy)
              have hle := idxE_le e G.es
              have hl5 := hG.len
              refine ⟨hG, ⟨hG.lo, hG.hi, ?_, hG.set, fun y hy => ?_, fun y hy => ?_, ?_, fun y hy => ?_⟩, rfl, hn⟩
              · simp only [List.length_append, List.length_take, List.length_cons, List.length_drop]; omega
              · rcases hm y hy with rfl | hy; simpa using h1; exact hG.ends y hy
              · rcases hm y hy with rfl | hy; simpa using h3; exact hG.lev y hy
              · refine List.pairwise_append.2 ⟨hG.asc.sublist (List.take_sublist _ _), List.pairwise_cons.2 ⟨fun y hy => idx_above hG.asc hn hy, hG.asc.sublist (List.drop_sublist _ _)⟩, fun a ha b hb => ?_⟩
                have h1 := idx_below ha
                rcases List.mem_cons.1 hb with rfl | hb
                · exact h1
                · exact ltE_trans h1 (idx_above hG.asc hn hb)
              · rcases hm y hy with rfl | hy; simpa using h2; exact hG.free y hy
theorem with_zero {G : Gr} {e : Edg} (h : (withG G e).2 ≠ 0) : (withG G e).1 = noGr := by
  unfold withG at h ⊢
  repeat' (first | rfl | (exact absurd rfl h) | split at h | split)
  all_goals simp_all
end Go.Proofs.Ytnmpbjgccbnomaa
