import Derived.Test.YtkglgboncngpbaaGreatDoorPackAA
import Derived.WalkKit
import Derived.Laws.BitsAllLaws
import Derived.Test.YtkglgboncngpbaaGreatDoorRows
import Derived.WalkSpells
import Derived.WalkLawsBesides
import Derived.StillTailTactics
import Derived.Deep.QuietTactic
import Derived.BigQuiet
import Derived.BigRegion
import Derived.Outline
import Derived.Lib.Hide
import Derived.Laws.Rows
import Derived.Laws.OwnMore
import Derived.Laws.AppendOwnNone
import Derived.OwnWalk
import Derived.Lib.SlBytesRow
import Derived.Laws.CopyRow
import Derived.Deep.AppendLies
/- The walks of package wire: Int, Text, Ints. -/
namespace Go.Proofs.YtkglgboncngpbaaGreatDoor
open Go.RowKit
/-- What a string and a list are written as. -/
def textB (s : List UInt8) : List UInt8 := be8 (s.length : Int) ++ s
def listB (l : List Int) : List UInt8 := l.flatMap be8
def intsB (l : List Int) : List UInt8 := be8 (l.length : Int) ++ listB l
theorem textB_len (s : List UInt8) : (textB s).length = 8 + s.length := by simp [textB, be8_len]
theorem listB_len (l : List Int) : (listB l).length = 8 * l.length := by
  induction l with
  | nil => rfl
  | cons x l ih => simp only [listB, List.flatMap_cons, List.length_append, be8_len, List.length_cons] at ih ⊢; omega
theorem intsB_len (l : List Int) : (intsB l).length = 8 + 8 * l.length := by simp [intsB, be8_len, listB_len]
theorem listB_snoc (l : List Int) (x : Int) : listB (l ++ [x]) = listB l ++ be8 x := by simp [listB]
/-- A slice of bytes that a call hands back: it reads as us; what was there is as it was. -/
def GivesB (w : World) (us : List UInt8) (e : Ending) (w' : World) : Prop := ∃ A m c, e = .returned (.slice A m c) ∧ m = us.length ∧ BRow w' A m c us ∧ New w w' A ∧ Below w.heap.size w w'
theorem BOwn.gives {w w' : World} {v : Value} {us : List UInt8} (h : BOwn w' w.heap.size v us) (hb : Below w.heap.size w w') : GivesB w us (.returned v) w' := by
  obtain ⟨A, c, rfl, hr⟩ := h.row
  exact ⟨A, _, c, rfl, rfl, hr, fun ad hA => (by subst hA; exact World.ownsRow.lt h _ rfl), hb⟩
/-- The call returns bytes of its own. -/
def GivesO (w : World) (us : List UInt8) (e : Ending) (w' : World) : Prop := ∃ v, e = .returned v ∧ BOwn w' w.heap.size v us ∧ Below w.heap.size w w'
theorem GivesO.gives {w w' : World} {us : List UInt8} {e : Ending} (h : GivesO w us e w') : GivesB w us e w' := by
  obtain ⟨v, rfl, ho, hb⟩ := h; exact ho.gives hb
theorem take_snoc' {α : Type} (l : List α) (k : Nat) (d : α) (h : k < l.length) : l.take (k + 1) = l.take k ++ [l.getD k d] := by
  rw [List.take_succ_eq_append_getElem h]; simp [h]
set_option maxHeartbeats 400000 in
theorem wireInt_own (A : Option Addr) (n c : Nat) (us : List UInt8) (x : Int) (w : World) (hr : BRow w A n c us) (hm : n ≤ 3000000) :
    Calls Tryz.prog 110 #[.slice A n c, .int .i64 x] w (GivesO w (us ++ be8 x)) := by
  have HR := Lib.hid hr; have HL := Lib.hid hr.len; clear hr
  go_enter Tryz.func110, Tryz.ntmps110
  go_wp2_with fail
  refine (withRoom_any A n c us 8 w HR.out (by omega)).mono ?_
  rintro e w1 ⟨v1, rfl, ho1, hb1⟩
  have HO1 := Lib.hid ho1; have HB1 := Lib.hid hb1; clear ho1 hb1
  go_wp2_with fail
  refine (appendNumber_any w.heap.size v1 us x w1 HO1.out HB1.out.size (by rw [HL.out]; omega)).mono ?_
  rintro e w2 ⟨v2, rfl, ho2, hb2⟩
  have HO2 := Lib.hid ho2; have HB2 := Lib.hid hb2; clear ho2 hb2
  go_wp2
  go_ret
  exact ⟨_, rfl, HO2.out, HB1.out.trans HB2.out⟩
theorem wireInt_any (A : Option Addr) (n c : Nat) (us : List UInt8) (x : Int) (w : World) (hr : BRow w A n c us) (hm : n ≤ 3000000) :
    Calls Tryz.prog 110 #[.slice A n c, .int .i64 x] w (GivesB w (us ++ be8 x)) :=
  (wireInt_own A n c us x w hr hm).mono fun _ _ h => h.gives
set_option maxHeartbeats 400000 in
theorem wireText_own (A : Option Addr) (n c : Nat) (us : List UInt8) (s : ByteArray) (w : World) (hr : BRow w A n c us) (hm : n ≤ 3000000) (hs : s.size ≤ 3000000) :
    Calls Tryz.prog 57 #[.slice A n c, .string s] w (GivesO w (us ++ textB s.data.toList)) := by
  have HR := Lib.hid hr; have HL := Lib.hid hr.len; clear hr
  go_enter Tryz.func57, Tryz.ntmps57
  go_wp2_with fail
  refine (withRoom_any A n c us (8 + s.size) w HR.out (by omega)).mono ?_
  rintro e w1 ⟨v1, rfl, ho1, hb1⟩
  have HO1 := Lib.hid ho1; have HB1 := Lib.hid hb1; clear ho1 hb1
  go_wp2_with fail
  refine (appendNumber_any w.heap.size v1 us (s.size : Int) w1 HO1.out HB1.out.size (by rw [HL.out]; omega)).mono ?_
  rintro e w2 ⟨v2, rfl, ho2, hb2⟩
  have HO2 := Lib.hid ho2; have HB2 := Lib.hid (HB1.out.trans hb2); clear ho2 hb2
  have hlen : (us ++ be8 (s.size : Int)).length = n + 8 := by rw [List.length_append, be8_len, HL.out]
  have HLEN := Lib.hid hlen; clear hlen
  go_wp2_with (at_builtin; go_must (refine wpList_app w2 rfl (.tmp 14) (.tmp 15) 30 9 5 rfl w.heap.size Tryz.underlying30 u8_info rfl v2 _ _ HO2.out rfl (.string s) s.size (byteCells s) (Src.ofString w2 Tryz.underlying9 s) rfl (by rw [HLEN.out]; unfold maxLen; omega) (by rw [HLEN.out]; omega) HB2.out.size ?_); intro v3 w3 ho3 hb3; have HO3 := Lib.hid ho3; have HB3 := Lib.hid (HB2.out.trans hb3); clear ho3 hb3)
  go_ret
  refine ⟨_, rfl, ?_, HB3.out⟩
  have h := HO3.out
  unfold BOwn textB
  rw [← List.append_assoc, bytesV_app, List.length_append, show (s.data.toList.length : Int) = (s.size : Int) from by simp]
  rw [show s.data.toList.length = s.size from by simp]
  exact h
theorem wireText_any (A : Option Addr) (n c : Nat) (us : List UInt8) (s : ByteArray) (w : World) (hr : BRow w A n c us) (hm : n ≤ 3000000) (hs : s.size ≤ 3000000) :
    Calls Tryz.prog 57 #[.slice A n c, .string s] w (GivesB w (us ++ textB s.data.toList)) :=
  (wireText_own A n c us s w hr hm hs).mono fun _ _ h => h.gives
set_option maxHeartbeats 400000 in
theorem wireInts_own (A : Option Addr) (n c : Nat) (us : List UInt8) (B : Option Addr) (m k : Nat) (l : List Int) (w : World) (hr : BRow w A n c us) (hl : IRow w B m k l) (hm : n ≤ 3000000) (hs : m ≤ 90000) :
    Calls Tryz.prog 109 #[.slice A n c, .slice B m k] w (GivesO w (us ++ intsB l)) := by
  have HR := Lib.hid hr; have HL := Lib.hid hr.len; have HI := Lib.hid hl; have HLL := Lib.hid hl.len; clear hr hl
  go_enter Tryz.func109, Tryz.ntmps109
  go_wp2_with fail
  refine (withRoom_any A n c us (8 + 8 * m) w HR.out (by omega)).mono ?_
  rintro e w1 ⟨v1, rfl, ho1, hb1⟩
  have HO1 := Lib.hid ho1; have HB1 := Lib.hid hb1; clear ho1 hb1
  go_wp2_with fail
  refine (appendNumber_any w.heap.size v1 us (m : Int) w1 HO1.out HB1.out.size (by rw [HL.out]; omega)).mono ?_
  rintro e w2 ⟨v2, rfl, ho2, hb2⟩
  have HO2 := Lib.hid ho2; have HB2 := Lib.hid (HB1.out.trans hb2); clear ho2 hb2
  go_wp2_with fail
  go_loopw [5, 7, 19] (fun v y i wr => ∃ j : Nat, j ≤ m ∧ i = .int .i64 j ∧ Hid (BOwn wr w.heap.size v (us ++ be8 (m : Int) ++ listB (l.take j)) ∧ Below w.heap.size w wr)) (fun _ _ i _ => m - (intOf i).toNat)
  case atStart => exact ⟨0, Nat.zero_le _, rfl, Lib.hid ⟨by simpa [listB] using HO2.out, HB2.out⟩⟩
  case round =>
    obtain ⟨j, hj, rfl, HQ⟩ := hrel
    by_cases hlt : j < m
    · obtain ⟨b, off, hA, hcell⟩ := (Row.later HI.out HQ.out.2).form (by omega)
      have hc := hcell j (by omega)
      rw [intsV_get _ _ (by rw [HLL.out]; exact hlt)] at hc
      unfold iv at hc
      subst hA
      clear hcell
      have hlen : (us ++ be8 (m : Int) ++ listB (l.take j)).length ≤ 900000000 := by
        rw [List.length_append, List.length_append, be8_len, listB_len, List.length_take, HLL.out, HL.out]; omega
      have HLEN := Lib.hid hlen; clear hlen
      go_wp2_with fail
      refine (appendNumber_any w.heap.size _ _ (l.getD j 0) wr HQ.out.1 HQ.out.2.size HLEN.out).mono ?_
      rintro e w3 ⟨v3, rfl, ho3, hb3⟩
      have HO3 := Lib.hid ho3; have HB3 := Lib.hid (HQ.out.2.trans hb3); clear ho3 hb3
      go_wp2
      exact ⟨⟨j + 1, by omega, by go_num, Lib.hid ⟨by rw [take_snoc' l j 0 (by rw [HLL.out]; exact hlt), listB_snoc, ← List.append_assoc]; exact HO3.out, HB3.out⟩⟩, by simp [intOf]; omega⟩
    · have HK : Hid (j = m) := by unfold Hid; omega
      go_wp2
      go_ret
      refine ⟨_, rfl, ?_, HQ.out.2⟩
      have h := HQ.out.1
      rw [HK.out, List.take_of_length_le (by rw [HLL.out]; exact Nat.le_refl _)] at h
      unfold intsB
      rw [HLL.out, ← List.append_assoc]
      exact h
theorem wireInts_any (A : Option Addr) (n c : Nat) (us : List UInt8) (B : Option Addr) (m k : Nat) (l : List Int) (w : World) (hr : BRow w A n c us) (hl : IRow w B m k l) (hm : n ≤ 3000000) (hs : m ≤ 90000) :
    Calls Tryz.prog 109 #[.slice A n c, .slice B m k] w (GivesB w (us ++ intsB l)) :=
  (wireInts_own A n c us B m k l w hr hl hm hs).mono fun _ _ h => h.gives
end Go.Proofs.YtkglgboncngpbaaGreatDoor
/- The walks of statement.numbers and Bytes. -/
namespace Go.Proofs.YtkglgboncngpbaaGreatDoor
open Go.RowKit
theorem BOwn.later {w w' : World} {B : Nat} {v : Value} {us : List UInt8} (h : BOwn w B v us) (hb : Below w.heap.size w w') : BOwn w' B v us := own_below h hb fun k hk => (World.ownsRow.lt h k hk).2
theorem BOwn.from {w : World} {B B' : Nat} {v : Value} {us : List UInt8} (h : BOwn w B v us) (hb : B' ≤ B) : BOwn w B' v us := own_mono h hb
set_option maxHeartbeats 1000000 in
theorem numbers_any (A : Option Addr) (n c : Nat) (l : List Int) (w : World) (hl : IRow w A n c l) (hn : n ≤ 1000) :
    Calls Tryz.prog 84 #[.slice A n c] w (GivesO w (listB l)) := by
  have HI := Lib.hid hl; have HL := Lib.hid hl.len; clear hl
  go_enter Tryz.func84, Tryz.ntmps84
  go_wp2
  go_loopw [3, 8] (fun v i wr => ∃ k : Nat, k ≤ n ∧ i = .int .i64 k ∧ Hid (BOwn wr w.heap.size v (listB (l.take k)) ∧ Below w.heap.size w wr)) (fun _ i _ => n - (intOf i).toNat)
  case atStart => exact ⟨0, Nat.zero_le _, rfl, Lib.hid ⟨World.ownsRow_nil _ _ _ _, Below.refl _ _⟩⟩
  case round =>
    obtain ⟨k, hk, rfl, HQ⟩ := hrel
    by_cases hlt : k < n
    · obtain ⟨b, off, hA, hc0⟩ := (HI.out.later HQ.out.2).cell k hlt
      obtain ⟨A1, c1, hv, hr1⟩ := HQ.out.1.row
      subst hA; subst hv
      have HR1 := Lib.hid hr1
      have HLN : Hid ((listB (l.take k)).length = 8 * k) := by unfold Hid; rw [listB_len, List.length_take, HL.out]; omega
      rw [HLN.out] at HR1 ⊢
      have HT : Hid (listB (l.take (k + 1)) = listB (l.take k) ++ be8 (l.getD k 0)) := by unfold Hid; rw [take_snoc' l k 0 (by rw [HL.out]; exact hlt), listB_snoc]
      clear hr1
      generalize l.getD k 0 = x at hc0 HT
      go_wp2_with fail
      refine (wireInt_own A1 (8 * k) c1 (listB (l.take k)) x wr HR1.out (by omega)).mono ?_
      rintro e w1 ⟨v1, rfl, ho, hb⟩
      have HO := Lib.hid (ho.from HQ.out.2.size); have HB := Lib.hid (HQ.out.2.trans (hb.mono HQ.out.2.size)); clear ho hb
      go_wp2
      exact ⟨⟨k + 1, hlt, by go_num, Lib.hid ⟨by rw [HT.out]; exact HO.out, HB.out⟩⟩, by simp [intOf]; omega⟩
    · have HE : Hid (k = n) := by unfold Hid; omega
      have HT : Hid (l.take k = l) := by unfold Hid; rw [HE.out, ← HL.out, List.take_length]
      go_wp2
      go_ret
      exact ⟨_, rfl, by have := HQ.out.1; rw [HT.out] at this; exact this, HQ.out.2⟩
/-- The bytes of a pin, of pins; the body bytes of a statement. -/
def pinBs (p : PinD) : List UInt8 := listB [p.author, p.height] ++ textB p.digest.data.toList
def pinsBs (l : List PinD) : List UInt8 := l.flatMap pinBs
theorem pinsBs_app (l m : List PinD) : pinsBs (l ++ m) = pinsBs l ++ pinsBs m := by simp [pinsBs]
theorem pinsBs_snoc (l : List PinD) (p : PinD) : pinsBs (l ++ [p]) = pinsBs l ++ pinBs p := by simp [pinsBs]
def bodyB (s : Stm) : List UInt8 :=
  listB [s.author, s.number] ++ textB s.prev.data.toList ++ listB [s.time, s.kind, s.a, s.b, s.c] ++ intsB s.list ++ listB [(s.pins.length : Int)] ++ pinsBs s.pins ++ textB s.body.data.toList
/-- Not too much to be written. -/
structure Small (s : Stm) : Prop where
  prev : s.prev.size ≤ 1000
  list : s.list.length ≤ 1000
  pins : s.pins.length ≤ 1000
  all : (pinsBs s.pins).length ≤ 1500000
  body : s.body.size ≤ 100000
  dig : s.dig.size ≤ 1200000
theorem str_len (b : ByteArray) : b.data.toList.length = b.size := by simp
theorem textS_len (b : ByteArray) : (textB b.data.toList).length = 8 + b.size := by rw [textB_len, str_len]
theorem take_pins {s : Stm} (h : Small s) (k : Nat) : (pinsBs (s.pins.take k)).length ≤ 1500000 := by
  have h1 := h.all
  rw [← List.take_append_drop k s.pins, pinsBs_app, List.length_append] at h1
  omega
theorem pin_small {s : Stm} (h : Small s) (k : Nat) (hk : k < s.pins.length) : (s.pins.getD k noPin).digest.size ≤ 1500000 := by
  have h1 := take_pins h (k + 1)
  rw [take_snoc' s.pins k noPin hk, pinsBs_snoc, List.length_append] at h1
  unfold pinBs at h1
  rw [List.length_append, textS_len] at h1
  omega
/-- What readers of a drawn region find in a block of a statement. -/
theorem stm_futs {F : World → World → Prop} (hr : ∀ w, F w w) {W : World} {g : Nat} {s : Stm} {A : Option Addr} {n c : Nat} {B : Option Addr} {m k : Nat} {t : TypeId} {fr : Nat × Nat}
    (hF : ∀ w', F W w' → w'.heap[g]? = W.heap[g]?) (h : W.heap[g]? = some (.cells #[.int .i64 s.author, .int .i64 s.number, .string s.prev, .int .i64 s.time, .int .i64 s.kind, .int .i64 s.a, .int .i64 s.b, .int .i64 s.c, .slice A n c, .slice B m k, .string s.body, .int .i64 s.key, .string s.dig] t fr)) :
    (∀ x, (fut F W x).cell? ⟨g, 0, none⟩ = some (.int .i64 s.author)) ∧ (∀ x, (fut F W x).cell? ⟨g, 1, none⟩ = some (.int .i64 s.number)) ∧ (∀ x, (fut F W x).cell? ⟨g, 2, none⟩ = some (.string s.prev)) ∧ (∀ x, (fut F W x).cell? ⟨g, 3, none⟩ = some (.int .i64 s.time)) ∧ (∀ x, (fut F W x).cell? ⟨g, 4, none⟩ = some (.int .i64 s.kind)) ∧ (∀ x, (fut F W x).cell? ⟨g, 5, none⟩ = some (.int .i64 s.a)) ∧ (∀ x, (fut F W x).cell? ⟨g, 6, none⟩ = some (.int .i64 s.b)) ∧ (∀ x, (fut F W x).cell? ⟨g, 7, none⟩ = some (.int .i64 s.c)) ∧ (∀ x, (fut F W x).cell? ⟨g, 8, none⟩ = some (.slice A n c)) ∧ (∀ x, (fut F W x).cell? ⟨g, 9, none⟩ = some (.slice B m k)) ∧ (∀ x, (fut F W x).cell? ⟨g, 10, none⟩ = some (.string s.body)) ∧ (∀ x, (fut F W x).cell? ⟨g, 11, none⟩ = some (.int .i64 s.key)) ∧ (∀ x, (fut F W x).cell? ⟨g, 12, none⟩ = some (.string s.dig)) := by
  have h2 := fun x => stm_cells (s := s) ((hF _ (fut_ok hr W x)).trans h)
  exact ⟨fun x => (h2 x).1, fun x => (h2 x).2.1, fun x => (h2 x).2.2.1, fun x => (h2 x).2.2.2.1, fun x => (h2 x).2.2.2.2.1, fun x => (h2 x).2.2.2.2.2.1, fun x => (h2 x).2.2.2.2.2.2.1, fun x => (h2 x).2.2.2.2.2.2.2.1, fun x => (h2 x).2.2.2.2.2.2.2.2.1, fun x => (h2 x).2.2.2.2.2.2.2.2.2.1, fun x => (h2 x).2.2.2.2.2.2.2.2.2.2.1, fun x => (h2 x).2.2.2.2.2.2.2.2.2.2.2.1, fun x => (h2 x).2.2.2.2.2.2.2.2.2.2.2.2⟩
section
variable {P : Program} {ops : Array Oper} {a : Act} {o : Oper} {rest : List Oper} {Q : Exit → Act → World → Prop}
/-- append, and what it leaves alone: all old blocks but the slice's own. -/
theorem wpList_appK (w : World) (hgd : o.guard = none) (s x : Operand) (t tx e : TypeId) (ho : o.op = .call { callee := .builtin .append, args := #[s, x], argTypes := #[t, tx] })
    (base : Nat) (ht : P.underlying t = some (.slice e)) {z : Value} {size bytes : Nat} (hi : (P.info? e).map (fun i => (i.zero, i.size, i.bytes)) = some (some z, size, bytes)) (hzs : z.cells.size = size)
    (v : Value) (n : Nat) (xs : List Value) (hown : w.ownsRow base e size v n xs) (hs : a.eval s = v) (X : Value) (m : Nat) (news : List Value) (hsrc : Src P size tx X m news w) (hx : a.eval x = X)
    (h63 : n + m ≤ maxLen) (hbytes : (n + m) * bytes ≤ 140737488355328) (hbase : base ≤ w.heap.size)
    (h : ∀ v' w', w'.ownsRow base e size v' (n + m) (xs ++ news) → Below base w w' → (∀ k, k < w.heap.size → v.ownBlock ≠ some k → w'.heap[k]? = w.heap[k]?) → wpList P ops Q rest (a.put o.dst v') w') : wpList P ops Q (o :: rest) a w := by
  obtain ⟨i0, hi0, hz0, hz1, hz2⟩ := info_parts hi
  obtain ⟨v', w', hr, h2, h3, _⟩ := run_app w base t tx o.type e i0 z size bytes ht hi0 hz0 hz1 hz2 hzs v n xs hown X m news hsrc h63 hbytes hbase
  refine wpList_plain hgd fun K hK => ?_
  unfold Oper.wp execOp
  simp only [ho, resolve, invoke, builtin, Sem.run_bind, Sem.run_pure, Result.andThen_ok, List.map_toArray, List.map_cons, List.map_nil, hs, hx, hr]
  exact hK _ _ (h v' w' h2 ((Below.refl base w).grown h3 hbase (fun k hk => (World.ownsRow.lt hown k hk).1)) (fun k hk hne => h3.block k hk (fun e => hne e.symm)))
end
/-- Below G nothing turns, nor does block p. -/
def Keeps (G p : Nat) (a b : World) : Prop := Below G a b ∧ b.heap[p]? = a.heap[p]?
theorem Keeps.refl (G p : Nat) (a : World) : Keeps G p a a := ⟨Below.refl _ _, rfl⟩
theorem Keeps.trans {G p : Nat} {a b c : World} (h : Keeps G p a b) (k : Keeps G p b c) : Keeps G p a c := ⟨h.1.trans k.1, k.2.trans h.2⟩
theorem Keeps.of {G p : Nat} {a b : World} (h : Below a.heap.size a b) (hG : G ≤ a.heap.size) (hp : p < a.heap.size) : Keeps G p a b := ⟨h.mono hG, h.block p hp⟩
/-- What readers of a drawn region find in a block of a pin. -/
theorem pin_futs {F : World → World → Prop} (hr : ∀ w, F w w) {W : World} {g : Nat} {x y : Int} {z : ByteArray} {t : TypeId} {fr : Nat × Nat}
    (hF : ∀ w', F W w' → w'.heap[g]? = W.heap[g]?) (h : W.heap[g]? = some (.cells #[.int .i64 x, .int .i64 y, .string z] t fr)) :
    (∀ x', (fut F W x').cell? ⟨g, 0, none⟩ = some (.int .i64 x)) ∧ (∀ x', (fut F W x').cell? ⟨g, 1, none⟩ = some (.int .i64 y)) ∧ (∀ x', (fut F W x').cell? ⟨g, 2, none⟩ = some (.string z)) := by
  have h2 := fun x' => (hF _ (fut_ok hr W x')).trans h
  exact ⟨fun x' => by rw [cell_of_row _ _ _ _ _ _ (h2 x')]; rfl, fun x' => by rw [cell_of_row _ _ _ _ _ _ (h2 x')]; rfl, fun x' => by rw [cell_of_row _ _ _ _ _ _ (h2 x')]; rfl⟩
theorem own_bytes {w : World} {G : Nat} {v : Value} {us xs vs : List UInt8} {k : Nat} (hk : xs.length = k) (hv : vs = us ++ xs) (h : w.ownsRow G 5 1 v (us.length + k) (bytesV us ++ bytesV xs)) : BOwn w G v vs := by
  subst hk; subst hv
  unfold BOwn
  rw [bytesV_app, List.length_append]; exact h
theorem nums_row {w : World} (l : List Int) (cs : Array Value) (t : TypeId) (fr : Nat × Nat) (h : cs = (intsV l).toArray) (n : Nat) (hn : l.length = n) : IRow (w.alloc (.cells cs t fr)) (some ⟨w.heap.size, 0, none⟩) n n l := by
  subst h; subst hn
  exact Row.of_block (cs := (intsV l).toArray) (heap_alloc_new _ _) (by simp [intsV])
set_option maxRecDepth 100000 in
set_option maxHeartbeats 4000000 in
theorem bytes_own (s : Stm) (A : Option Addr) (n c : Nat) (B : Option Addr) (m k : Nat) (w : World) (hl : IRow w A n c s.list) (hp : PRow w B m k s.pins) (hs : Small s) :
    Calls Tryz.prog 83 #[stmV s A n c B m k] w (GivesO w (bodyB s)) := by
  have HL := Lib.hid hl; have HP := Lib.hid hp; have HN := Lib.hid hl.len; have HM := Lib.hid hp.len; have HSM := Lib.hid hs
  have hn : n ≤ 1000 := by rw [← hl.len]; exact hs.list
  have hm : m ≤ 1000 := by rw [← hp.len]; exact hs.pins
  clear hl hp hs
  obtain ⟨author, number, prev, time, kind, a, b, cc, list, pins, body, key, dig⟩ := s
  unfold stmV
  simp only at HL HP HN HM
  have hprev := HSM.out.prev; have hbody := HSM.out.body
  simp only at hprev hbody
  have HG : Hid (bodyB ⟨author, number, prev, time, kind, a, b, cc, list, pins, body, key, dig⟩ = listB [author, number] ++ textB prev.data.toList ++ listB [time, kind, a, b, cc] ++ intsB list ++ listB [(m : Int)] ++ pinsBs pins ++ textB body.data.toList) := by unfold Hid bodyB; rw [HM.out]
  generalize bodyB _ = R at HG ⊢
  obtain ⟨G, hG⟩ : ∃ G, G = w.heap.size + 1 := ⟨_, rfl⟩
  have HC0 : Hid ((w.alloc (.cells #[.int .i64 author, .int .i64 number, .string prev, .int .i64 time, .int .i64 kind, .int .i64 a, .int .i64 b, .int .i64 cc, .slice A n c, .slice B m k, .string body, .int .i64 key, .string dig] 27)).heap[w.heap.size]? = some (.cells #[.int .i64 author, .int .i64 number, .string prev, .int .i64 time, .int .i64 kind, .int .i64 a, .int .i64 b, .int .i64 cc, .slice A n c, .slice B m k, .string body, .int .i64 key, .string dig] 27 (0, 0))) := Lib.hid (heap_alloc_new _ _)
  have HB0 : Hid (Below w.heap.size w (w.alloc (.cells #[.int .i64 author, .int .i64 number, .string prev, .int .i64 time, .int .i64 kind, .int .i64 a, .int .i64 b, .int .i64 cc, .slice A n c, .slice B m k, .string body, .int .i64 key, .string dig] 27))) := Lib.hid (one_new _ _)
  have HS0 : Hid ((w.alloc (.cells #[.int .i64 author, .int .i64 number, .string prev, .int .i64 time, .int .i64 kind, .int .i64 a, .int .i64 b, .int .i64 cc, .slice A n c, .slice B m k, .string body, .int .i64 key, .string dig] 27)).heap.size = G) := by unfold Hid; rw [hG]; simp
  have HGG := Lib.hid hG; clear hG
  go_enter Tryz.func83, Tryz.ntmps83
  go_wp2_with fail
  refine wp_region_grow (by kernel_rfl) (Below G) (Below.refl G) (fun _ _ _ => Below.trans) [10] [([0, 1, 2, 3, 6, 7], 4), ([], 5), ([], 8), ([], 9)] (by kernel_rfl) (by kernel_rfl) (by kernel_rfl) ?_
  simp only [List.map_cons, List.map_nil, pick, List.getD_cons_zero, List.getD_cons_succ]
  have HB1 := Lib.hid (HB0.out.drew); have HC1 : Hid ((w.alloc (.cells #[.int .i64 author, .int .i64 number, .string prev, .int .i64 time, .int .i64 kind, .int .i64 a, .int .i64 b, .int .i64 cc, .slice A n c, .slice B m k, .string body, .int .i64 key, .string dig] 27)).drew.heap[w.heap.size]? = _) := HC0; have HS1 : Hid ((w.alloc (.cells #[.int .i64 author, .int .i64 number, .string prev, .int .i64 time, .int .i64 kind, .int .i64 a, .int .i64 b, .int .i64 cc, .slice A n c, .slice B m k, .string body, .int .i64 key, .string dig] 27)).drew.heap.size = G) := HS0
  clear HB0 HC0 HS0
  generalize (w.alloc (.cells #[.int .i64 author, .int .i64 number, .string prev, .int .i64 time, .int .i64 kind, .int .i64 a, .int .i64 b, .int .i64 cc, .slice A n c, .slice B m k, .string body, .int .i64 key, .string dig] 27)).drew = w1 at HB1 HC1 HS1 ⊢
  obtain ⟨hf0, hf1, hf2, hf3, hf4, hf5, hf6, hf7, hf8, hf9, hf10, hf11, hf12⟩ := stm_futs (F := Below G) (Below.refl G) (s := ⟨author, number, prev, time, kind, a, b, cc, list, pins, body, key, dig⟩) (fun w' h => h.block _ (by rw [HGG.out]; omega)) HC1.out
  refine wpGrow_cons ?_
  repeat (go_big_quiet_step (fail))
  refine wpQuiet_nil ?_
  clear hf0 hf1 hf2 hf3 hf4 hf5 hf6 hf7 hf8 hf9 hf10 hf11 hf12
  go_wp2_with fail
  refine pieceEnd_normal ⟨(one_new _ _).mono (by rw [HS1.out]; exact Nat.le_refl _), ?_⟩
  have HR2 := Lib.hid (nums_row (w := w1) [author, number] #[.int .i64 author, .int .i64 number] 3 (0, 0) rfl 2 rfl)
  have HW2 : Hid (Below G w1 (w1.alloc (.cells #[.int .i64 author, .int .i64 number] 3))) := Lib.hid ((one_new _ _).mono (by rw [HS1.out]; exact Nat.le_refl _))
  have hsz2 : G ≤ (w1.alloc (.cells #[.int .i64 author, .int .i64 number] 3)).heap.size := by have := HW2.out.size; rw [HS1.out] at this; exact this
  have HS2 := Lib.hid hsz2; clear hsz2
  generalize w1.alloc (.cells #[.int .i64 author, .int .i64 number] 3) = w2 at HR2 HW2 HS2 ⊢
  rw [HS1.out] at HR2 ⊢
  refine wpGrow_cons ?_
  refine wpQuiet_nil ?_
  go_wp2_with fail
  refine (numbers_any _ 2 2 [author, number] w2 HR2.out (by omega)).mono ?_
  rintro e w3 ⟨v3, rfl, ho, hb⟩
  have HO3 := Lib.hid (ho.from HS2.out); have HW3 := Lib.hid (HW2.out.trans (hb.mono HS2.out)); have HS3 := Lib.hid (Nat.le_trans HS2.out hb.size); have HF := Lib.hid (hb.mono HS2.out)
  clear ho hb HR2 HW2
  go_wp2_with fail
  refine pieceEnd_normal ⟨HF.out, ?_⟩
  clear HF HS2
  refine wpGrow_cons ?_
  refine wpQuiet_nil ?_
  go_wp2_with fail
  refine (wireText_own none 0 0 [] prev w3 (Row.nilRow _ _) (by omega) (by omega)).mono ?_
  rintro e w4 ⟨v4, rfl, ho, hb⟩
  rw [List.nil_append] at ho
  have HO4 := Lib.hid (HO3.out.later hb); have HX4 := Lib.hid ho; have HW4 := Lib.hid (HW3.out.trans (hb.mono HS3.out)); have HS4 := Lib.hid (Nat.le_trans HS3.out hb.size); have HF := Lib.hid (hb.mono HS3.out)
  clear ho hb HO3 HW3
  obtain ⟨A4, c4, hv4, hr4⟩ := HX4.out.row
  have HR4 := Lib.hid hr4
  subst hv4; clear hr4 HX4
  go_wp2_with fail
  refine pieceEnd_normal ⟨HF.out, ?_⟩
  clear HF HS3
  refine wpGrow_cons ?_
  refine wpQuiet_nil ?_
  have HLN : Hid ((listB [author, number]).length = 16) := by unfold Hid; rw [listB_len]; rfl
  have HLT : Hid ((textB prev.data.toList).length = 8 + prev.size) := Lib.hid (textS_len prev)
  rw [HLT.out] at HR4 ⊢
  go_wp2_with (at_builtin; go_must (refine wpList_app w4 rfl (.tmp 11) (.tmp 14) 30 30 5 rfl G Tryz.underlying30 u8_info rfl v3 _ _ HO4.out rfl _ (8 + prev.size) (bytesV (textB prev.data.toList)) (Row.src HR4.out Tryz.underlying30 (bytesV_one _)) rfl (by rw [HLN.out]; unfold maxLen; omega) (by rw [HLN.out]; omega) HS4.out ?_); intro v5 w5 ho5 hb5; have HO5 := Lib.hid ho5; have HW5 := Lib.hid (HW4.out.trans hb5); have HF := Lib.hid hb5; clear ho5 hb5)
  go_wp2_with fail
  refine pieceEnd_normal ⟨HF.out, ?_⟩
  clear HF HO4 HR4 HW4
  refine wpGrow_nil ?_
  repeat (go_big_quiet_step (fail))
  refine wpQuiet_nil ?_
  have HP1 : Hid (BOwn w5 G v5 (listB [author, number] ++ textB prev.data.toList)) := by
    have h := HO5.out
    unfold Hid BOwn
    rw [bytesV_app, List.length_append, HLT.out]; exact h
  have HS5 := Lib.hid (Nat.le_trans HS4.out (Nat.le_of_eq rfl)); clear HO5 HS4
  have HZ5 : Hid (G ≤ w5.heap.size) := Lib.hid (by have := HW5.out.size; rw [HS1.out] at this; exact this)
  clear HS5
  have HC5 : Hid (w5.heap[w.heap.size]? = w1.heap[w.heap.size]?) := Lib.hid (HW5.out.block _ (by rw [HGG.out]; omega))
  obtain ⟨hc0, hc1, hc2, hc3, hc4, hc5, hc6, hc7, hc8, hc9, hc10, hc11, hc12⟩ := stm_cells (s := ⟨author, number, prev, time, kind, a, b, cc, list, pins, body, key, dig⟩) (HC5.out.trans HC1.out)
  obtain ⟨U1, hU1⟩ : ∃ U, U = listB [author, number] ++ textB prev.data.toList := ⟨_, rfl⟩
  have HU1 : Hid (U1.length = 24 + prev.size) := by unfold Hid; rw [hU1, List.length_append, HLN.out, HLT.out]; omega
  have HG1 : Hid (R = U1 ++ listB [time, kind, a, b, cc] ++ intsB list ++ listB [(m : Int)] ++ pinsBs pins ++ textB body.data.toList) := by unfold Hid; rw [HG.out, hU1]
  rw [← hU1] at HP1
  clear hU1 HG HLN HLT
  go_wp2_with fail
  refine (numbers_any _ 5 5 [time, kind, a, b, cc] _ (nums_row (w := w5) [time, kind, a, b, cc] #[.int .i64 time, .int .i64 kind, .int .i64 a, .int .i64 b, .int .i64 cc] 3 (0, 0) rfl 5 rfl) (by omega)).mono ?_
  rintro e w5b ⟨x5, rfl, ho, hb⟩
  have hbb : Below w5.heap.size w5 w5b := (one_new _ _).trans (hb.mono (by simp))
  have HOb := Lib.hid (HP1.out.later hbb); have HWb := Lib.hid (HW5.out.trans (hbb.mono HZ5.out)); have HZb : Hid (G ≤ w5b.heap.size) := Lib.hid (Nat.le_trans HZ5.out hbb.size)
  obtain ⟨A5, c5, hv, hr⟩ := ho.row
  have HRb := Lib.hid hr; subst hv; clear hr ho hb hbb
  have HLX : Hid ((listB [time, kind, a, b, cc]).length = 40) := by unfold Hid; rw [listB_len]; rfl
  rw [HLX.out] at HRb ⊢
  obtain ⟨U2, hU⟩ : ∃ U, U = U1 ++ listB [time, kind, a, b, cc] := ⟨_, rfl⟩
  have HQ2 := Lib.hid hU; clear hU
  clear HP1 HC5 hc0 hc1 hc2 hc3 hc4 hc5 hc6 hc7 hc8 hc9 hc10 hc11 hc12
  go_wp2_with (at_builtin; go_must (refine wpList_app w5b rfl (.tmp 16) (.tmp 28) 30 30 5 rfl G Tryz.underlying30 u8_info rfl v5 _ _ HOb.out rfl _ (40) (bytesV (listB [time, kind, a, b, cc])) (Row.src HRb.out Tryz.underlying30 (bytesV_one _)) rfl (by rw [HU1.out]; unfold maxLen; omega) (by rw [HU1.out]; omega) HZb.out ?_); intro v6 w6 ho5 hb5; have HW6 := Lib.hid (HWb.out.trans hb5); have HP2 := Lib.hid (own_bytes HLX.out HQ2.out ho5); have HZ6 : Hid (G ≤ w6.heap.size) := Lib.hid (by have := HW6.out.size; rw [HS1.out] at this; exact this); have HC6 : Hid (w6.heap[w.heap.size]? = w1.heap[w.heap.size]?) := Lib.hid (HW6.out.block _ (by rw [HGG.out]; omega)); obtain ⟨hc0, hc1, hc2, hc3, hc4, hc5, hc6, hc7, hc8, hc9, hc10, hc11, hc12⟩ := stm_cells (s := ⟨author, number, prev, time, kind, a, b, cc, list, pins, body, key, dig⟩) (HC6.out.trans HC1.out); clear ho5 hb5 HOb HWb HZb HRb)
  have HU2 : Hid (U2.length = 24 + prev.size + 40) := by unfold Hid; rw [HQ2.out, List.length_append, HLX.out, HU1.out]
  clear HLX HU1
  refine (wireInts_own none 0 0 [] A n c list w6 (Row.nilRow _ _) (HL.out.later (HB1.out.trans (HW6.out.mono (by rw [HGG.out]; omega)))) (by omega) (by omega)).mono ?_
  rintro e w6b ⟨x6, rfl, ho, hb⟩
  have hbb : Below w6.heap.size w6 w6b := hb
  have HOb := Lib.hid (HP2.out.later hbb); have HWb := Lib.hid (HW6.out.trans (hbb.mono HZ6.out)); have HZb : Hid (G ≤ w6b.heap.size) := Lib.hid (Nat.le_trans HZ6.out hbb.size)
  obtain ⟨A6, c6, hv, hr⟩ := ho.row
  have HRb := Lib.hid hr; subst hv; clear hr ho hb hbb
  have HLX : Hid ((intsB list).length = 8 + 8 * n) := by unfold Hid; rw [intsB_len, HN.out]
  rw [List.nil_append] at HRb ⊢
  rw [HLX.out] at HRb ⊢
  obtain ⟨U3, hU⟩ : ∃ U, U = U2 ++ intsB list := ⟨_, rfl⟩
  have HQ3 := Lib.hid hU; clear hU
  clear HP2 HC6 hc0 hc1 hc2 hc3 hc4 hc5 hc6 hc7 hc8 hc9 hc10 hc11 hc12
  go_wp2_with (at_builtin; go_must (refine wpList_app w6b rfl (.tmp 30) (.tmp 33) 30 30 5 rfl G Tryz.underlying30 u8_info rfl v6 _ _ HOb.out rfl _ (8 + 8 * n) (bytesV (intsB list)) (Row.src HRb.out Tryz.underlying30 (bytesV_one _)) rfl (by rw [HU2.out]; unfold maxLen; omega) (by rw [HU2.out]; omega) HZb.out ?_); intro v7 w7 ho5 hb5; have HW7 := Lib.hid (HWb.out.trans hb5); have HP3 := Lib.hid (own_bytes HLX.out HQ3.out ho5); have HZ7 : Hid (G ≤ w7.heap.size) := Lib.hid (by have := HW7.out.size; rw [HS1.out] at this; exact this); have HC7 : Hid (w7.heap[w.heap.size]? = w1.heap[w.heap.size]?) := Lib.hid (HW7.out.block _ (by rw [HGG.out]; omega)); obtain ⟨hc0, hc1, hc2, hc3, hc4, hc5, hc6, hc7, hc8, hc9, hc10, hc11, hc12⟩ := stm_cells (s := ⟨author, number, prev, time, kind, a, b, cc, list, pins, body, key, dig⟩) (HC7.out.trans HC1.out); clear ho5 hb5 HOb HWb HZb HRb)
  have HU3 : Hid (U3.length = 24 + prev.size + 40 + (8 + 8 * n)) := by unfold Hid; rw [HQ3.out, List.length_append, HLX.out, HU2.out]
  clear HLX HU2
  refine (numbers_any _ 1 1 [(m : Int)] _ (nums_row (w := w7) [(m : Int)] #[.int .i64 (m : Int)] 3 (0, 0) rfl 1 rfl) (by omega)).mono ?_
  rintro e w7b ⟨x7, rfl, ho, hb⟩
  have hbb : Below w7.heap.size w7 w7b := (one_new _ _).trans (hb.mono (by simp))
  have HOb := Lib.hid (HP3.out.later hbb); have HWb := Lib.hid (HW7.out.trans (hbb.mono HZ7.out)); have HZb : Hid (G ≤ w7b.heap.size) := Lib.hid (Nat.le_trans HZ7.out hbb.size)
  obtain ⟨A7, c7, hv, hr⟩ := ho.row
  have HRb := Lib.hid hr; subst hv; clear hr ho hb hbb
  have HLX : Hid ((listB [(m : Int)]).length = 8) := by unfold Hid; rw [listB_len]; rfl
  rw [HLX.out] at HRb ⊢
  obtain ⟨U4, hU⟩ : ∃ U, U = U3 ++ listB [(m : Int)] := ⟨_, rfl⟩
  have HQ4 := Lib.hid hU; clear hU
  clear HP3 HC7 hc0 hc1 hc2 hc3 hc4 hc5 hc6 hc7 hc8 hc9 hc10 hc11 hc12
  go_wp2_with (at_builtin; go_must (refine wpList_app w7b rfl (.tmp 35) (.tmp 40) 30 30 5 rfl G Tryz.underlying30 u8_info rfl v7 _ _ HOb.out rfl _ (8) (bytesV (listB [(m : Int)])) (Row.src HRb.out Tryz.underlying30 (bytesV_one _)) rfl (by rw [HU3.out]; unfold maxLen; omega) (by rw [HU3.out]; omega) HZb.out ?_); intro v8 w8 ho5 hb5; have HW8 := Lib.hid (HWb.out.trans hb5); have HP4 := Lib.hid (own_bytes HLX.out HQ4.out ho5); have HZ8 : Hid (G ≤ w8.heap.size) := Lib.hid (by have := HW8.out.size; rw [HS1.out] at this; exact this); have HC8 : Hid (w8.heap[w.heap.size]? = w1.heap[w.heap.size]?) := Lib.hid (HW8.out.block _ (by rw [HGG.out]; omega)); obtain ⟨hc0, hc1, hc2, hc3, hc4, hc5, hc6, hc7, hc8, hc9, hc10, hc11, hc12⟩ := stm_cells (s := ⟨author, number, prev, time, kind, a, b, cc, list, pins, body, key, dig⟩) (HC8.out.trans HC1.out); clear ho5 hb5 HOb HWb HZb HRb)
  have HU4 : Hid (U4.length = 24 + prev.size + 40 + (8 + 8 * n) + 8) := by unfold Hid; rw [HQ4.out, List.length_append, HLX.out, HU3.out]
  clear HLX HU3
  have HG2 : Hid (R = U4 ++ pinsBs pins ++ textB body.data.toList) := by unfold Hid; rw [HG1.out, HQ4.out, HQ3.out, HQ2.out]
  clear HG1 HQ4 HQ3 HQ2
  have HZ := Lib.hid (And.intro HP4.out HW8.out)
  clear HP4 HW8 HZ8 HC8 hc0 hc1 hc2 hc3 hc4 hc5 hc6 hc7 hc8 hc9 hc10 hc11 hc12 HW5 HZ5 HW6 HZ6 HW7 HZ7
  go_loopw [3, 45] (fun v i wr => ∃ j : Nat, j ≤ m ∧ i = .int .i64 j ∧ Hid (BOwn wr G v (U4 ++ pinsBs (pins.take j)) ∧ Below G w1 wr)) (fun _ i _ => m - (intOf i).toNat)
  case atStart => exact ⟨0, Nat.zero_le _, rfl, Lib.hid ⟨by have := HZ.out.1; simpa [pinsBs] using this, HZ.out.2⟩⟩
  case round =>
    clear HZ
    obtain ⟨j, hj, rfl, HQ⟩ := hrel
    have HGw : Hid (G ≤ wr.heap.size) := Lib.hid (by have := HQ.out.2.size; rw [HS1.out] at this; exact this)
    by_cases hlt : j < m
    · obtain ⟨pb, off, hA, hc0, hc1, hc2⟩ := (HP.out.later (HB1.out.trans (HQ.out.2.mono (by rw [HGG.out]; omega)))).cells j hlt
      subst hA
      have HDS : Hid ((pins.getD j noPin).digest.size ≤ 1500000) := Lib.hid (pin_small HSM.out j (by show j < pins.length; rw [HM.out]; exact hlt))
      have HTJ : Hid (pinsBs (pins.take (j + 1)) = pinsBs (pins.take j) ++ (listB [(pins.getD j noPin).author, (pins.getD j noPin).height] ++ textB (pins.getD j noPin).digest.data.toList)) := by
        unfold Hid; rw [take_snoc' pins j noPin (by rw [HM.out]; exact hlt), pinsBs_snoc]; rfl
      have HTL : Hid ((pinsBs (pins.take j)).length ≤ 1500000) := Lib.hid (take_pins HSM.out j)
      generalize pins.getD j noPin = q at hc0 hc1 hc2 HDS HTJ
      obtain ⟨q1, q2, q3⟩ := q
      simp only at hc0 hc1 hc2 HDS HTJ
      have hq3 := HDS.out
      obtain ⟨v0, hv0⟩ : ∃ v, v = u3 := ⟨_, rfl⟩
      go_wp2_with fail
      clear hc0 hc1 hc2
      obtain ⟨p, hp⟩ : ∃ p, p = wr.heap.size := ⟨_, rfl⟩
      have HOW := Lib.hid (HQ.out.1.later (one_new wr (.cells #[.int .i64 q1, .int .i64 q2, .string q3] 74))); have HW2 := Lib.hid (HQ.out.2.trans ((one_new wr (.cells #[.int .i64 q1, .int .i64 q2, .string q3] 74)).mono HGw.out)); have HPC : Hid ((wr.alloc (.cells #[.int .i64 q1, .int .i64 q2, .string q3] 74)).heap[wr.heap.size]? = _) := Lib.hid (heap_alloc_new wr (.cells #[.int .i64 q1, .int .i64 q2, .string q3] 74))
      have HSZ : Hid ((wr.alloc (.cells #[.int .i64 q1, .int .i64 q2, .string q3] 74)).heap.size = p + 1) := by unfold Hid; rw [hp]; simp
      have HPG : Hid (G ≤ p) := by unfold Hid; rw [hp]; exact HGw.out
      have HNE : Hid (∀ k, Value.ownBlock u3 = some k → k < p) := Lib.hid fun k hk => by rw [hp]; exact (World.ownsRow.lt HQ.out.1 k hk).2
      rw [← hp] at HPC ⊢
      clear HQ HGw hp
      refine wp_region_grow (by kernel_rfl) (Keeps G p) (Keeps.refl G p) (fun _ _ _ => Keeps.trans) [11] [([0, 1, 2, 3, 4, 7, 8], 5), ([], 6), ([], 9), ([], 10)] (by kernel_rfl) (by kernel_rfl) (by kernel_rfl) ?_
      simp only [List.map_cons, List.map_nil, pick, List.getD_cons_zero, List.getD_cons_succ]
      have HOW1 : Hid (BOwn (wr.alloc (.cells #[.int .i64 q1, .int .i64 q2, .string q3] 74)).drew G u3 (U4 ++ pinsBs (pins.take j))) := HOW; have HW3 : Hid (Below G w1 (wr.alloc (.cells #[.int .i64 q1, .int .i64 q2, .string q3] 74)).drew) := Lib.hid HW2.out.drew; have HPC1 : Hid ((wr.alloc (.cells #[.int .i64 q1, .int .i64 q2, .string q3] 74)).drew.heap[p]? = _) := HPC; have HSZ1 : Hid ((wr.alloc (.cells #[.int .i64 q1, .int .i64 q2, .string q3] 74)).drew.heap.size = p + 1) := HSZ
      clear HOW HW2 HPC HSZ
      generalize (wr.alloc (.cells #[.int .i64 q1, .int .i64 q2, .string q3] 74)).drew = y1 at HOW1 HW3 HPC1 HSZ1 ⊢
      obtain ⟨hf0, hf1, hf2⟩ := pin_futs (F := Keeps G p) (Keeps.refl G p) (fun w' h => h.2) HPC1.out
      refine wpGrow_cons ?_
      repeat (go_big_quiet_step (fail))
      refine wpQuiet_nil ?_
      clear hf0 hf1 hf2
      go_wp2_with fail
      have hk : Below y1.heap.size y1 (y1.alloc (.cells #[.int .i64 q1, .int .i64 q2] 3)) := one_new _ _
      refine pieceEnd_normal ⟨Keeps.of hk (by rw [HSZ1.out]; have := HPG.out; omega) (by rw [HSZ1.out]; omega), ?_⟩
      have HR2 := Lib.hid (nums_row (w := y1) [q1, q2] #[.int .i64 q1, .int .i64 q2] 3 (0, 0) rfl 2 rfl)
      have HO2 := Lib.hid (HOW1.out.later hk); have HW4 := Lib.hid (HW3.out.trans (hk.mono (by rw [HSZ1.out]; have := HPG.out; omega))); have HSZ2 : Hid (p < (y1.alloc (.cells #[.int .i64 q1, .int .i64 q2] 3)).heap.size) := Lib.hid (by have := hk.size; rw [HSZ1.out] at this; omega)
      clear hk HOW1 HW3 HPC1
      generalize y1.alloc (.cells #[.int .i64 q1, .int .i64 q2] 3) = y2 at HR2 HO2 HW4 HSZ2 ⊢
      rw [HSZ1.out] at HR2 ⊢
      refine wpGrow_cons ?_
      refine wpQuiet_nil ?_
      go_wp2_with fail
      refine (numbers_any _ 2 2 [q1, q2] y2 HR2.out (by omega)).mono ?_
      rintro e y3 ⟨x3, rfl, ho, hb⟩
      have HF : Hid (Keeps G p y2 y3) := Lib.hid (Keeps.of hb (by have := HPG.out; have := HSZ2.out; omega) HSZ2.out)
      have HO3 := Lib.hid (HO2.out.later hb); have HW5 := Lib.hid (HW4.out.trans (hb.mono (by have := HPG.out; have := HSZ2.out; omega))); have HSZ3 : Hid (p < y3.heap.size) := Lib.hid (Nat.lt_of_lt_of_le HSZ2.out hb.size)
      obtain ⟨A3, c3, hv, hr⟩ := ho.row
      have HR3 := Lib.hid hr; subst hv; clear hr ho hb HR2 HO2 HW4
      have HL2 : Hid ((listB [q1, q2]).length = 16) := by unfold Hid; rw [listB_len]; rfl
      rw [HL2.out] at HR3 ⊢
      go_wp2_with fail
      refine pieceEnd_normal ⟨HF.out, ?_⟩
      clear HF HSZ2
      refine wpGrow_cons ?_
      refine wpQuiet_nil ?_
      go_wp2_with fail
      refine (wireText_own A3 16 c3 _ q3 y3 HR3.out (by omega) (by omega)).mono ?_
      rintro e y4 ⟨x4, rfl, ho, hb⟩
      have HF : Hid (Keeps G p y3 y4) := Lib.hid (Keeps.of hb (by have := HPG.out; have := HSZ3.out; omega) HSZ3.out)
      have HO4 := Lib.hid (HO3.out.later hb); have HW6 := Lib.hid (HW5.out.trans (hb.mono (by have := HPG.out; have := HSZ3.out; omega))); have HSZ4 : Hid (p < y4.heap.size) := Lib.hid (Nat.lt_of_lt_of_le HSZ3.out hb.size)
      obtain ⟨A4', c4', hv, hr⟩ := ho.row
      have HR4 := Lib.hid hr; subst hv; clear hr ho hb HR3 HO3 HW5
      have HL4 : Hid ((listB [q1, q2] ++ textB q3.data.toList).length = 16 + (8 + q3.size)) := by unfold Hid; rw [List.length_append, HL2.out, textS_len]
      rw [HL4.out] at HR4 ⊢
      go_wp2_with fail
      refine pieceEnd_normal ⟨HF.out, ?_⟩
      clear HF HSZ3
      refine wpGrow_cons ?_
      refine wpQuiet_nil ?_
      have HLU : Hid ((U4 ++ pinsBs (pins.take j)).length ≤ 1700000) := by unfold Hid; rw [List.length_append, HU4.out]; have := HTL.out; omega
      go_wp2_with (at_builtin; go_must (refine wpList_appK y4 rfl (.tmp 49) (.tmp 58) 30 30 5 rfl G Tryz.underlying30 u8_info rfl u3 _ _ HO4.out rfl _ (16 + (8 + q3.size)) (bytesV (listB [q1, q2] ++ textB q3.data.toList)) (Row.src HR4.out Tryz.underlying30 (bytesV_one _)) rfl (by have := HLU.out; unfold maxLen; omega) (by have := HLU.out; omega) (by have := HPG.out; have := HSZ4.out; omega) ?_); intro x5 y5 ho5 hb5 hk5; have HF : Hid (Keeps G p y4 y5) := Lib.hid ⟨hb5, hk5 p HSZ4.out (fun hh => Nat.lt_irrefl _ (HNE.out p hh))⟩; have HW7 := Lib.hid (HW6.out.trans hb5); have HO5 : Hid (BOwn y5 G x5 (U4 ++ pinsBs (pins.take (j + 1)))) := Lib.hid (own_bytes HL4.out (by rw [HTJ.out, List.append_assoc]) ho5); clear ho5 hb5 hk5)
      go_wp2_with fail
      refine pieceEnd_normal ⟨HF.out, ?_⟩
      refine wpGrow_nil ?_
      repeat (go_big_quiet_step (fail))
      refine wpQuiet_nil ?_
      go_wp2
      exact ⟨⟨j + 1, hlt, by go_num, Lib.hid ⟨HO5.out, HW7.out⟩⟩, by simp [intOf]; omega⟩
    · have HE : Hid (j = m) := by unfold Hid; omega
      have HT : Hid (pins.take j = pins) := by unfold Hid; rw [HE.out, ← HM.out, List.take_length]
      have HO8 : Hid (BOwn wr G u3 (U4 ++ pinsBs pins)) := Lib.hid (by have := HQ.out.1; rw [HT.out] at this; exact this)
      have HW8 := Lib.hid HQ.out.2
      have HLU : Hid ((U4 ++ pinsBs pins).length ≤ 1700000) := by unfold Hid; rw [List.length_append, HU4.out]; have := HSM.out.all; simp only at this; omega
      clear HQ HT
      have HC8 : Hid (wr.heap[w.heap.size]? = w1.heap[w.heap.size]?) := Lib.hid (HW8.out.block _ (by rw [HGG.out]; omega))
      obtain ⟨hc0, hc1, hc2, hc3, hc4, hc5, hc6, hc7, hc8, hc9, hc10, hc11, hc12⟩ := stm_cells (s := ⟨author, number, prev, time, kind, a, b, cc, list, pins, body, key, dig⟩) (HC8.out.trans HC1.out)
      go_wp2_with fail
      refine (wireText_own none 0 0 [] body wr (Row.nilRow _ _) (by omega) (by omega)).mono ?_
      rintro e w9 ⟨x9, rfl, ho, hb⟩
      rw [List.nil_append] at ho
      have HO9 := Lib.hid (HO8.out.later hb); have HW9 := Lib.hid (HW8.out.trans (hb.mono HGw.out)); have HZ9 : Hid (G ≤ w9.heap.size) := Lib.hid (Nat.le_trans HGw.out hb.size)
      obtain ⟨A9, c9, hv, hr⟩ := ho.row
      have HR9 := Lib.hid hr; subst hv; clear hr ho hb HO8 HC8 hc0 hc1 hc2 hc3 hc4 hc5 hc6 hc7 hc8 hc9 hc10 hc11 hc12
      have HL9 : Hid ((textB body.data.toList).length = 8 + body.size) := Lib.hid (textS_len body)
      rw [HL9.out] at HR9 ⊢
      go_wp2_with (at_builtin; go_must (refine wpList_app w9 rfl (.tmp 61) (.tmp 64) 30 30 5 rfl G Tryz.underlying30 u8_info rfl u3 _ _ HO9.out rfl _ (8 + body.size) (bytesV (textB body.data.toList)) (Row.src HR9.out Tryz.underlying30 (bytesV_one _)) rfl (by have := HLU.out; unfold maxLen; omega) (by have := HLU.out; omega) HZ9.out ?_); intro x10 w10 ho5 hb5; have HW10 := Lib.hid (HW9.out.trans hb5); have HO10 : Hid (BOwn w10 G x10 R) := Lib.hid (own_bytes HL9.out HG2.out ho5); clear ho5 hb5)
      go_ret
      exact ⟨_, rfl, HO10.out.from (by rw [HGG.out]; omega), HB1.out.trans (HW10.out.mono (by rw [HGG.out]; omega))⟩
end Go.Proofs.YtkglgboncngpbaaGreatDoor
/- Words of 32 bits and bytes as the walk spells them: plain facts, no program. -/
namespace Go.Proofs.YtkglgboncngpbaaGreatDoor

/-- A word of 32 bits, as the integer that the model holds. -/
def w32 (x : UInt32) : Int := (x.toNat : Int)
def ushr (x : UInt32) (n : Nat) : UInt32 := UInt32.ofNat (x.toNat / 2 ^ n)
def ushl (x : UInt32) (n : Nat) : UInt32 := UInt32.ofNat (x.toNat * 2 ^ n)
def rotr (x : UInt32) (n : Nat) : UInt32 := ushl x (32 - n) ||| ushr x n

theorem w32_lt (x : UInt32) : x.toNat < 4294967296 := x.toNat_lt
theorem w32_of (n : Nat) (h : n < 4294967296) : w32 (UInt32.ofNat n) = (n : Int) := by
  unfold w32; rw [UInt32.toNat_ofNat_of_lt' (by simpa using h)]
theorem w32_bd (x : UInt32) : 0 ≤ w32 x ∧ w32 x ≤ 4294967295 := by
  unfold w32; have := w32_lt x; omega

theorem bits_and (x y : UInt32) : bits .and .u32 (w32 x) (w32 y) = w32 (x &&& y) := by
  unfold w32; rw [u32_and_nat _ _ (w32_lt x) (w32_lt y), UInt32.toNat_and]
theorem bits_or (x y : UInt32) : bits .or .u32 (w32 x) (w32 y) = w32 (x ||| y) := by
  unfold w32; rw [u32_or_nat _ _ (w32_lt x) (w32_lt y), UInt32.toNat_or]
theorem bits_xor (x y : UInt32) : bits .xor .u32 (w32 x) (w32 y) = w32 (x ^^^ y) := by
  unfold w32; rw [u32_xor_nat _ _ (w32_lt x) (w32_lt y), UInt32.toNat_xor]
theorem bits_not (x : UInt32) : bits .xor .u32 4294967295 (w32 x) = w32 (~~~x) := by
  rw [show (4294967295 : Int) = w32 4294967295 from rfl, bits_xor]
  have h : (4294967295 : UInt32) ^^^ x = ~~~x := by
    apply UInt32.toBitVec_inj.1
    have : (4294967295 : UInt32).toBitVec = BitVec.allOnes 32 := by decide
    rw [UInt32.toBitVec_xor, this, UInt32.toBitVec_not, BitVec.allOnes_xor]
  rw [h]
theorem wrap_add (x y : UInt32) : IntKind.u32.wrap (w32 x + w32 y) = w32 (x + y) := by
  rw [IntKind.wrap_u32]; unfold w32; rw [UInt32.toNat_add]; omega
theorem run_shr (yk : IntKind) (x : UInt32) (n : Int) (h0 : 0 ≤ n) : Op.shift .shr .u32 (w32 x) yk n = pure (.int .u32 (w32 (ushr x n.toNat))) := by
  rw [shift_shr_any _ _ _ _ h0]
  have hx := w32_lt x
  have e : x.toNat / 2 ^ min n.toNat 32 = x.toNat / 2 ^ n.toNat := by
    rcases Nat.le_total n.toNat 32 with h | h
    · rw [Nat.min_eq_left h]
    · rw [Nat.min_eq_right h, Nat.div_eq_of_lt (by simpa using hx), Nat.div_eq_of_lt]
      exact Nat.lt_of_lt_of_le (by simpa using hx) (Nat.pow_le_pow_right (by omega) h)
  have hlt : x.toNat / 2 ^ n.toNat < 4294967296 := Nat.lt_of_le_of_lt (Nat.div_le_self _ _) hx
  unfold ushr
  rw [w32_of _ hlt, ← e]
  unfold w32
  simp [IntKind.bits]
theorem run_shl (yk : IntKind) (x : UInt32) (n : Int) (h0 : 0 ≤ n) : Op.shift .shl .u32 (w32 x) yk n = pure (.int .u32 (w32 (ushl x n.toNat))) := by
  rw [shift_shl_any _ _ _ _ h0]
  have e : x.toNat * 2 ^ min n.toNat 32 % 4294967296 = x.toNat * 2 ^ n.toNat % 4294967296 := by
    rcases Nat.le_total n.toNat 32 with h | h
    · rw [Nat.min_eq_left h]
    · rw [Nat.min_eq_right h, show n.toNat = 32 + (n.toNat - 32) by omega, Nat.pow_add]
      have : (2 : Nat) ^ 32 = 4294967296 := by decide
      rw [this, ← Nat.mul_assoc, Nat.mul_mod_left, Nat.mul_right_comm, Nat.mul_mod_left]
  unfold ushl w32
  rw [IntKind.wrap_u32, UInt32.toNat_ofNat', show (2 : Nat) ^ 32 = 4294967296 by decide, ← e]
  simp [IntKind.bits]
theorem wrap_byte (b : UInt8) : IntKind.u32.wrap (w8 b) = w32 b.toUInt32 := by
  rw [IntKind.wrap_u32]; unfold w8 w32; have := w8_lt b; rw [UInt8.toNat_toUInt32]; omega
theorem wrap_low (x : UInt32) : IntKind.u8.wrap (w32 x) = w8 x.toUInt8 := by
  rw [IntKind.wrap_u8]; unfold w8 w32; rw [UInt32.toNat_toUInt8]; omega
attribute [go_sem] bits_and bits_or bits_xor bits_not wrap_add wrap_byte wrap_low
theorem bits_not_max (x : UInt32) : bits .xor .u32 IntKind.u32.max (w32 x) = w32 (~~~x) := bits_not x
theorem bits_not_if (x : UInt32) : bits .xor .u32 (if IntKind.u32.signed = true then -1 else IntKind.u32.max) (w32 x) = w32 (~~~x) := bits_not x
attribute [go_sem] bits_not_max bits_not_if
attribute [go_sem ↓] run_shr run_shl
end Go.Proofs.YtkglgboncngpbaaGreatDoor
/- The walks of the two functions that turn a word. -/
namespace Go.Proofs.YtkglgboncngpbaaGreatDoor
open Go.RowKit
theorem rotr_comm (x : UInt32) (n : Nat) : ushr x n ||| ushl x (32 - n) = rotr x n := UInt32.or_comm _ _
set_option maxHeartbeats 400000 in
theorem turn_any (x : UInt32) (n : Nat) (h1 : 1 ≤ n) (h : n ≤ 31) (w : World) :
    Calls Tryz.prog 115 #[.int .u32 (w32 x), .int .u64 n] w fun e w' => e = .returned (.int .u32 (w32 (rotr x n))) ∧ w = w' := by
  have h2 : n ≤ 32 := by omega
  have h3 : (n : Int) ≤ 32 := by omega
  go_enter Tryz.func115, Tryz.ntmps115
  go_wp2
  go_ret
  exact ⟨by rw [← rotr_comm]; rfl, rfl⟩
def rots : List Int := [-2, -6, -7, -11, -13, -17, -18, -19, -22, -25]
theorem rots_and (k : Int) (hk : k ∈ rots) : bits .and .u64 (IntKind.u64.wrap k) 31 = 32 + k := by
  have h : ∀ k ∈ rots, bits .and .u64 (IntKind.u64.wrap k) 31 = 32 + k := by decide +kernel
  exact h k hk
set_option maxHeartbeats 400000 in
theorem rot_any (x : UInt32) (k : Int) (hk : k ∈ rots) (w : World) :
    Calls Tryz.prog 142 #[.int .u32 (w32 x), .int .i64 k] w fun e w' => e = .returned (.int .u32 (w32 (rotr x (-k).toNat))) ∧ w = w' := by
  have e := rots_and k hk
  simp only [rots, List.mem_cons, List.not_mem_nil, or_false] at hk
  rcases hk with rfl | rfl | rfl | rfl | rfl | rfl | rfl | rfl | rfl | rfl
  all_goals
    go_enter Tryz.func142, Tryz.ntmps142
    go_wp2
    go_ret
    exact ⟨rfl, rfl⟩
end Go.Proofs.YtkglgboncngpbaaGreatDoor
/- The digest as plain functions on words and bytes: no program. -/
namespace Go.Proofs.YtkglgboncngpbaaGreatDoor
open Go.RowKit
namespace Sha
/-- Word i of a block of bytes. -/
def word (bs : Nat → UInt8) (i : Nat) : UInt32 :=
  ushl (bs (4 * i)).toUInt32 24 ||| ushl (bs (4 * i + 1)).toUInt32 16 ||| ushl (bs (4 * i + 2)).toUInt32 8 ||| (bs (4 * i + 3)).toUInt32
def small0 (x : UInt32) : UInt32 := rotr x 7 ^^^ rotr x 18 ^^^ ushr x 3
def small1 (x : UInt32) : UInt32 := rotr x 17 ^^^ rotr x 19 ^^^ ushr x 10
/-- Element i of a list of words. -/
def at_ (l : List UInt32) (i : Nat) : UInt32 := l.getD i 0
/-- The word behind the words of l. -/
def nextW (l : List UInt32) : UInt32 :=
  at_ l (l.length - 16) + small0 (at_ l (l.length - 15)) + at_ l (l.length - 7) + small1 (at_ l (l.length - 2))
def firsts (bs : Nat → UInt8) (k : Nat) : List UInt32 := (List.range k).map (word bs)
def schedTo (bs : Nat → UInt8) : Nat → List UInt32
  | 0 => firsts bs 16
  | k + 1 => schedTo bs k ++ [nextW (schedTo bs k)]
def sched (bs : Nat → UInt8) : List UInt32 := schedTo bs 48
theorem firsts_succ (bs : Nat → UInt8) (k : Nat) : firsts bs (k + 1) = firsts bs k ++ [word bs k] := by simp [firsts, List.range_succ]
theorem firsts_len (bs : Nat → UInt8) (k : Nat) : (firsts bs k).length = k := by simp [firsts]
theorem schedTo_len (bs : Nat → UInt8) (k : Nat) : (schedTo bs k).length = 16 + k := by
  induction k with
  | zero => simp [schedTo, firsts]
  | succ k ih => simp [schedTo, ih]; omega

structure St where
  a : UInt32
  b : UInt32
  c : UInt32
  d : UInt32
  e : UInt32
  f : UInt32
  g : UInt32
  h : UInt32
def ch (e f g : UInt32) : UInt32 := e &&& f ^^^ ~~~e &&& g
def maj (a b c : UInt32) : UInt32 := a &&& b ^^^ a &&& c ^^^ b &&& c
def big0 (a : UInt32) : UInt32 := rotr a 2 ^^^ rotr a 13 ^^^ rotr a 22
def big1 (e : UInt32) : UInt32 := rotr e 6 ^^^ rotr e 11 ^^^ rotr e 25
def vv (s : St) (k w : UInt32) : UInt32 := s.h + big1 s.e + ch s.e s.f s.g + k + w
def round (s : St) (k w : UInt32) : St :=
  { a := vv s k w + big0 s.a + maj s.a s.b s.c, b := s.a, c := s.b, d := s.c, e := s.d + vv s k w, f := s.e, g := s.f, h := s.g }
def K : List UInt32 := [
  1116352408, 1899447441, 3049323471, 3921009573, 961987163, 1508970993, 2453635748, 2870763221, 3624381080, 310598401, 607225278, 1426881987, 1925078388, 2162078206, 2614888103, 3248222580,
  3835390401, 4022224774, 264347078, 604807628, 770255983, 1249150122, 1555081692, 1996064986, 2554220882, 2821834349, 2952996808, 3210313671, 3336571891, 3584528711, 113926993, 338241895,
  666307205, 773529912, 1294757372, 1396182291, 1695183700, 1986661051, 2177026350, 2456956037, 2730485921, 2820302411, 3259730800, 3345764771, 3516065817, 3600352804, 4094571909, 275423344,
  430227734, 506948616, 659060556, 883997877, 958139571, 1322822218, 1537002063, 1747873779, 1955562222, 2024104815, 2227730452, 2361852424, 2428436474, 2756734187, 3204031479, 3329325298]
def kAt (i : Nat) : UInt32 := at_ K i
def rounds (ws : List UInt32) : Nat → St → St
  | 0, s => s
  | i + 1, s => round (rounds ws i s) (kAt i) (at_ ws i)
theorem rounds_succ {ws : List UInt32} {k : Nat} {s t : St} (h : t = rounds ws k s) : round t (kAt k) (at_ ws k) = rounds ws (k + 1) s := by
  subst h; rfl
theorem round_eq (t : St) (k w : UInt32) : round t k w =
    ⟨t.h + (rotr t.e 6 ^^^ rotr t.e 11 ^^^ rotr t.e 25) + (t.e &&& t.f ^^^ ~~~t.e &&& t.g) + k + w + (rotr t.a 2 ^^^ rotr t.a 13 ^^^ rotr t.a 22) + (t.a &&& t.b ^^^ t.a &&& t.c ^^^ t.b &&& t.c), t.a, t.b, t.c,
      t.d + (t.h + (rotr t.e 6 ^^^ rotr t.e 11 ^^^ rotr t.e 25) + (t.e &&& t.f ^^^ ~~~t.e &&& t.g) + k + w), t.e, t.f, t.g⟩ := rfl
def addS (s t : St) : St := { a := s.a + t.a, b := s.b + t.b, c := s.c + t.c, d := s.d + t.d, e := s.e + t.e, f := s.f + t.f, g := s.g + t.g, h := s.h + t.h }
/-- The state with a block mixed in. -/
def mixF (s : St) (bs : Nat → UInt8) : St := addS s (rounds (sched bs) 64 s)
def start : St := { a := 1779033703, b := 3144134277, c := 1013904242, d := 2773480762, e := 1359893119, f := 2600822924, g := 528734635, h := 1541459225 }
/-- n blocks of bytes mixed in, one behind the other. -/
def mixAll (bs : Nat → UInt8) : Nat → St → St
  | 0, s => s
  | n + 1, s => mixF (mixAll bs n s) (fun i => bs (64 * n + i))
end Sha
/-- Words as the cells of an array, and what is not yet laid of it. -/
def cellsW (l : List UInt32) (n : Nat) : Array Value := (l.map (fun x => Value.int .u32 (w32 x)) ++ List.replicate (n - l.length) (Value.int .u32 0)).toArray
theorem cellsW_size (l : List UInt32) (n : Nat) (h : l.length ≤ n) : (cellsW l n).size = n := by simp [cellsW]; omega
theorem cellsW_get (l : List UInt32) (n i : Nat) (h : i < l.length) : (cellsW l n)[i]? = some (.int .u32 (w32 (Sha.at_ l i))) := by
  simp [cellsW, List.getElem?_append, h, Sha.at_]
theorem cellsW_rest (l : List UInt32) (n i : Nat) (h : l.length ≤ i) (hn : i < n) : (cellsW l n)[i]? = some (.int .u32 0) := by
  have h2 : i - l.length < n - l.length := by omega
  have h3 : (l.map (fun x => Value.int .u32 (w32 x))).length ≤ i := by simpa using h
  unfold cellsW
  rw [List.getElem?_toArray, List.getElem?_append_right h3, List.length_map, List.getElem?_replicate, if_pos h2]
theorem cellsW_push (l : List UInt32) (n : Nat) (x : UInt32) (h : l.length < n) : (cellsW l n).setIfInBounds l.length (.int .u32 (w32 x)) = cellsW (l ++ [x]) n := by
  have e : n - l.length = (n - (l.length + 1)) + 1 := by omega
  simp [cellsW, e, List.replicate_succ]
theorem cellsW_one (l : List UInt32) (n : Nat) : (cellsW l n).all (·.oneCell') = true := by
  simp only [cellsW, List.all_toArray, List.all_append, List.all_map, List.all_replicate, Bool.and_eq_true]
  exact ⟨by rw [List.all_eq_true]; intro x _; rfl, by split <;> rfl⟩
theorem cellsW_zero (n : Nat) : cellsW [] n = (List.replicate n (Value.int .u32 0)).toArray := by simp [cellsW]
theorem below_setRow {B : Nat} {a w : World} (h : Below B a w) {g : Nat} (hg : B ≤ g) (cs : Array Value) : Below B a (w.setRow g cs) :=
  ⟨h.os, h.tape, h.output, by rw [setRow_size]; exact h.size, fun k hk => (setRow_other w g k cs (by omega)).trans (h.block k hk)⟩
end Go.Proofs.YtkglgboncngpbaaGreatDoor
/- The walk of digest.schedule. -/
namespace Go.Proofs.YtkglgboncngpbaaGreatDoor
open Go.RowKit
/-- What holds while digest.schedule lays its words: block g holds the words of l, block g0 nothing yet, and below g0 nothing has changed. -/
def SchedInv (w wr : World) (l : List UInt32) : Prop :=
  wr.heap[w.heap.size + 1]? = some (.cells (cellsW l 64) 160 (0, 0)) ∧ wr.heap[w.heap.size]? = some (.cells (cellsW [] 64) 160 (0, 0)) ∧ Below w.heap.size w wr
theorem SchedInv.set {w wr : World} {l : List UInt32} (h : SchedInv w wr l) {k : Nat} (hk : k = l.length) (x : UInt32) (hl : k < 64) :
    SchedInv w (wr.setCell ⟨w.heap.size + 1, k, none⟩ (.int .u32 (w32 x))) (l ++ [x]) := by
  subst hk
  obtain ⟨h1, h2, h3⟩ := h
  refine ⟨?_, ?_, h3.setCell (by simp) _⟩
  · rw [heap_setCell_same _ _ _ _ _ _ h1, cellsW_push _ _ _ hl]
  · rw [heap_setCell_other _ _ _ _ (by simp)]; exact h2
theorem SchedInv.drew {w wr : World} {l : List UInt32} (h : SchedInv w wr l) : SchedInv w wr.drew l := ⟨h.1, h.2.1, h.2.2.drew⟩
theorem SchedInv.drewN {w wr : World} {l : List UInt32} (h : SchedInv w wr l) (n : Nat) : SchedInv w (wr.drewN n) l := ⟨h.1, h.2.1, ⟨h.2.2.os, h.2.2.tape, h.2.2.output, h.2.2.size, h.2.2.block⟩⟩
theorem SchedInv.start (w : World) : SchedInv w ((w.alloc (.cells (cellsW [] 64) 160)).alloc (.cells (cellsW [] 64) 160)) [] :=
  ⟨heap_alloc2_new _ _ _, heap_alloc2_old _ _ _, ((Below.refl _ _).alloc (Nat.le_refl _) _).alloc (by simp) _⟩
set_option maxRecDepth 100000 in
set_option maxHeartbeats 400000 in
theorem sched_any (b off n c : Nat) (bs : Nat → UInt8) (w : World) (hn : 64 ≤ n) (hn2 : n ≤ 4000000) (hb : b < w.heap.size)
    (hc : ∀ i, i < 64 → w.cell? ⟨b, off + i, none⟩ = some (.int .u8 (w8 (bs i)))) :
    Calls Tryz.prog 141 #[.slice (some ⟨b, off, none⟩) n c] w fun e w' =>
      e = .returned (.agg (cellsW (Sha.sched bs) 64)) ∧ Below w.heap.size w w' := by
  have HC := Lib.hid hc; clear hc
  go_enter Tryz.func141, Tryz.ntmps141
  go_wp2
  go_loopw [10] (fun i wr => ∃ k : Nat, k ≤ 16 ∧ i = .int .i64 k ∧ SchedInv w wr (Sha.firsts bs k)) (fun i _ => 16 - (intOf i).toNat)
  case atStart => exact ⟨0, by omega, rfl, SchedInv.start w⟩
  case round =>
    obtain ⟨k, hk, rfl, hinv⟩ := hrel
    by_cases hlt : k < 16
    · have c0 : wr.cell? ⟨b, off + 4 * k, none⟩ = some (.int .u8 (w8 (bs (4 * k)))) := (hinv.2.2.cell (p := ⟨b, off + 4 * k, none⟩) hb).trans (HC.out _ (by omega))
      have c1 : wr.cell? ⟨b, off + (4 * k + 1), none⟩ = some (.int .u8 (w8 (bs (4 * k + 1)))) := (hinv.2.2.cell (p := ⟨b, off + (4 * k + 1), none⟩) hb).trans (HC.out _ (by omega))
      have c2 : wr.cell? ⟨b, off + (4 * k + 2), none⟩ = some (.int .u8 (w8 (bs (4 * k + 2)))) := (hinv.2.2.cell (p := ⟨b, off + (4 * k + 2), none⟩) hb).trans (HC.out _ (by omega))
      have c3 : wr.cell? ⟨b, off + (4 * k + 3), none⟩ = some (.int .u8 (w8 (bs (4 * k + 3)))) := (hinv.2.2.cell (p := ⟨b, off + (4 * k + 3), none⟩) hb).trans (HC.out _ (by omega))
      have hf : wr.frozen? ⟨w.heap.size + 1, k, none⟩ = false := frozen_of_row _ _ _ _ _ hinv.1
      have hs : wr.cell? ⟨w.heap.size + 1, k, none⟩ = some (.int .u32 0) := by rw [cell_of_row _ _ _ _ _ _ hinv.1, cellsW_rest _ _ _ (by rw [Sha.firsts_len]; omega) (by omega)]
      have HI := Lib.hid hinv; clear hinv
      go_wp2
      have e0 : IntKind.i64.wrap (4 * (k : Int)) = 4 * (k : Int) := IntWalk.i64_in _ (by omega)
      have e1 : IntKind.i64.wrap (4 * (k : Int) + 1) = 4 * (k : Int) + 1 := IntWalk.i64_in _ (by omega)
      have e2 : IntKind.i64.wrap (4 * (k : Int) + 2) = 4 * (k : Int) + 2 := IntWalk.i64_in _ (by omega)
      have e3 : IntKind.i64.wrap (4 * (k : Int) + 3) = 4 * (k : Int) + 3 := IntWalk.i64_in _ (by omega)
      have t0 : (4 * (k : Int)).toNat = 4 * k := by omega
      have t1 : (4 * (k : Int) + 1).toNat = 4 * k + 1 := by omega
      have t2 : (4 * (k : Int) + 2).toNat = 4 * k + 2 := by omega
      have t3 : (4 * (k : Int) + 3).toNat = 4 * k + 3 := by omega
      have p0 : 0 ≤ 4 * (k : Int) ∧ 4 * (k : Int) < n := by omega
      have p1 : 0 ≤ 4 * (k : Int) + 1 ∧ 4 * (k : Int) + 1 < n := by omega
      have p2 : 0 ≤ 4 * (k : Int) + 2 ∧ 4 * (k : Int) + 2 < n := by omega
      have p3 : 0 ≤ 4 * (k : Int) + 3 ∧ 4 * (k : Int) + 3 < n := by omega
      have p4 : (k : Int) < 64 := by omega
      go_still_tail 35, (by kernel_rfl)
      change wpList _ _ _ _ _ wr.drew
      clear c0 c1 c2 c3 e0 e1 e2 e3 t0 t1 t2 t3 p0 p1 p2 p3 p4
      go_wp2
      go_roundw
      case rel => exact ⟨k + 1, by omega, by go_num, by rw [Sha.firsts_succ]; exact HI.out.drew.set (Sha.firsts_len bs k).symm _ (by omega)⟩
      case measure => simp [intOf]; omega
    · have HK : Hid (k = 16) := by unfold Hid; omega
      have HI := Lib.hid hinv; clear hinv
      go_wp2
      obtain ⟨wo, hwo⟩ : ∃ wo : World, wo = wr := ⟨_, rfl⟩
      subst hwo
      go_loopw [5] (fun i wr => ∃ j : Nat, 16 ≤ j ∧ j ≤ 64 ∧ i = .int .i64 j ∧ SchedInv w wr (Sha.schedTo bs (j - 16))) (fun i _ => 64 - (intOf i).toNat)
      case atStart => exact ⟨16, by omega, by omega, rfl, by have h := HI.out; rw [HK.out] at h; exact h⟩
      case round =>
        obtain ⟨j, hj1, hj2, rfl, hinv⟩ := hrel
        by_cases hlt : j < 64
        · have hlen := Sha.schedTo_len bs (j - 16)
          obtain ⟨l, hl⟩ : ∃ l, l = Sha.schedTo bs (j - 16) := ⟨_, rfl⟩
          rw [← hl] at hinv hlen
          have hlen2 : l.length = j := by omega
          have c2 : wr.cell? ⟨w.heap.size + 1, j - 2, none⟩ = some (.int .u32 (w32 (Sha.at_ l (j - 2)))) := by rw [cell_of_row _ _ _ _ _ _ hinv.1, cellsW_get _ _ _ (by omega)]
          have c7 : wr.cell? ⟨w.heap.size + 1, j - 7, none⟩ = some (.int .u32 (w32 (Sha.at_ l (j - 7)))) := by rw [cell_of_row _ _ _ _ _ _ hinv.1, cellsW_get _ _ _ (by omega)]
          have c15 : wr.cell? ⟨w.heap.size + 1, j - 15, none⟩ = some (.int .u32 (w32 (Sha.at_ l (j - 15)))) := by rw [cell_of_row _ _ _ _ _ _ hinv.1, cellsW_get _ _ _ (by omega)]
          have c16 : wr.cell? ⟨w.heap.size + 1, j - 16, none⟩ = some (.int .u32 (w32 (Sha.at_ l (j - 16)))) := by rw [cell_of_row _ _ _ _ _ _ hinv.1, cellsW_get _ _ _ (by omega)]
          have hf : wr.frozen? ⟨w.heap.size + 1, j, none⟩ = false := frozen_of_row _ _ _ _ _ hinv.1
          have hs : wr.cell? ⟨w.heap.size + 1, j, none⟩ = some (.int .u32 0) := by rw [cell_of_row _ _ _ _ _ _ hinv.1, cellsW_rest _ _ _ (by omega) (by omega)]
          have HI := Lib.hid hinv; clear hinv
          have HL := Lib.hid hl; clear hl
          have HN := Lib.hid hlen2; clear hlen2 hlen
          have e2 : IntKind.i64.wrap ((j : Int) - 2) = (j : Int) - 2 := IntWalk.i64_in _ (by omega)
          have e7 : IntKind.i64.wrap ((j : Int) - 7) = (j : Int) - 7 := IntWalk.i64_in _ (by omega)
          have e15 : IntKind.i64.wrap ((j : Int) - 15) = (j : Int) - 15 := IntWalk.i64_in _ (by omega)
          have e16 : IntKind.i64.wrap ((j : Int) - 16) = (j : Int) - 16 := IntWalk.i64_in _ (by omega)
          have t2 : ((j : Int) - 2).toNat = j - 2 := by omega
          have t7 : ((j : Int) - 7).toNat = j - 7 := by omega
          have t15 : ((j : Int) - 15).toNat = j - 15 := by omega
          have t16 : ((j : Int) - 16).toNat = j - 16 := by omega
          have p2 : (2 : Int) ≤ (j : Int) := by omega
          have q2 : (j : Int) - 2 < 64 := by omega
          have p7 : (7 : Int) ≤ (j : Int) := by omega
          have q7 : (j : Int) - 7 < 64 := by omega
          have p15 : (15 : Int) ≤ (j : Int) := by omega
          have q15 : (j : Int) - 15 < 64 := by omega
          have p16 : (16 : Int) ≤ (j : Int) := by omega
          have q16 : (j : Int) - 16 < 64 := by omega
          have p4 : (j : Int) < 64 := by omega
          go_wp2
          go_quiet (fail)
          clear c2 c15 e2 e15 t2 t15 p2 p15 q2 q15
          go_wp2_with (go_at_call 142; refine (rot_any _ _ (by decide) _).mono ?_; rintro e w' ⟨rfl, rfl⟩)
          have d7 : (wr.drewN nq).cell? ⟨w.heap.size + 1, j - 7, none⟩ = some (.int .u32 (w32 (Sha.at_ l (j - 7)))) := c7
          have d16 : (wr.drewN nq).cell? ⟨w.heap.size + 1, j - 16, none⟩ = some (.int .u32 (w32 (Sha.at_ l (j - 16)))) := c16
          have df : (wr.drewN nq).frozen? ⟨w.heap.size + 1, j, none⟩ = false := hf
          have ds : (wr.drewN nq).cell? ⟨w.heap.size + 1, j, none⟩ = some (.int .u32 0) := hs
          have HJ := Lib.hid (HI.out.drewN nq)
          clear c7 c16 hf hs HI
          generalize wr.drewN nq = wq at d7 d16 df ds HJ ⊢
          go_still_tail 15, (by kernel_rfl)
          change wpList _ _ _ _ _ wq.drew
          clear d7 d16 e7 e16 t7 t16 p7 p16 q7 q16 p4
          go_wp2
          go_roundw
          case rel =>
            refine ⟨j + 1, by omega, by omega, by go_num, ?_⟩
            rw [show j + 1 - 16 = (j - 16) + 1 by omega, Sha.schedTo, ← HL.out, Sha.nextW, HN.out]
            exact HJ.out.drew.set HN.out.symm _ (by omega)
          case measure => simp [intOf]; omega
        · obtain rfl : j = 64 := by omega
          obtain ⟨hi1, hi2, hi3⟩ := hinv
          have HI3 := Lib.hid hi3; clear hi3 hlt hj1 hj2
          have hsz : (cellsW (Sha.schedTo bs (64 - 16)) 64).size = 64 := cellsW_size _ _ (by rw [Sha.schedTo_len]; omega)
          have hsz0 : (cellsW [] 64).size = 64 := cellsW_size _ _ (by simp)
          have hone := cellsW_one (Sha.schedTo bs (64 - 16)) 64
          obtain ⟨C, hC⟩ : ∃ C, C = cellsW (Sha.schedTo bs (64 - 16)) 64 := ⟨_, rfl⟩
          rw [← hC] at hi1 hsz hone
          obtain ⟨D, hD⟩ : ∃ D, D = cellsW [] 64 := ⟨_, rfl⟩
          rw [← hD] at hi2 hsz0
          have HC := Lib.hid hC; have HD := Lib.hid hD; clear hC hD
          have HI1 := Lib.hid hi1; have HI2 := Lib.hid hi2; have HZ := Lib.hid hsz; have HZ0 := Lib.hid hsz0; have HO := Lib.hid hone
          clear hi1 hi2 hsz hsz0 hone
          go_wp2_with (first
            | refine wpList_load_row rfl 160 (.tmp 3) rfl (w.heap.size + 1) rfl 160 C (0, 0) _ HI1.out Tryz.underlying160 rfl (by rw [HZ.out]; kernel_rfl) ?_
            | refine wpList_store_row rfl 160 (.tmp 2) (.tmp 92) rfl w.heap.size C rfl rfl 160 D HI2.out (by rw [HZ.out]; kernel_rfl) (by rw [HZ0.out, HZ.out]) HO.out ?_)
          exact bodyPost_ret (v := .agg C) (results_cell_row rfl _ _ w.heap.size 160 C (0, 0) _ rfl (setRow_heap _ _ _ _ _ _ HI2.out) Tryz.underlying160 rfl (by rw [HZ.out]; kernel_rfl)) rfl
            ⟨by rw [HC.out]; rfl, below_setRow HI3.out (Nat.le_refl _) _⟩
end Go.Proofs.YtkglgboncngpbaaGreatDoor
/- The walk of digest.mix. -/
namespace Go.Proofs.YtkglgboncngpbaaGreatDoor
open Go.RowKit
/-- A state as the cells of its array. -/
def stV (s : Sha.St) : Array Value := #[.int .u32 (w32 s.a), .int .u32 (w32 s.b), .int .u32 (w32 s.c), .int .u32 (w32 s.d), .int .u32 (w32 s.e), .int .u32 (w32 s.f), .int .u32 (w32 s.g), .int .u32 (w32 s.h)]
theorem stV_size (s : Sha.St) : (stV s).size = 8 := rfl
theorem stV_one (s : Sha.St) : (stV s).all (·.oneCell') = true := by simp [stV, Value.oneCell']
/-- The table of the rounds holds the constants. -/
def Rounds (w : World) : Prop := ∀ i, i < 64 → w.cell? ⟨0, i, none⟩ = some (.int .u32 (w32 (Sha.kAt i)))
theorem Rounds.lt {w : World} (h : Rounds w) : 0 < w.heap.size := block_lt_of_cell (h 0 (by omega))
theorem Rounds.below {B : Nat} {w w' : World} (h : Rounds w) (hb : Below B w w') (hB : 0 < B) : Rounds w' := fun i hi => (hb.cell (p := ⟨0, i, none⟩) hB).trans (h i hi)
/-- What holds of the world when digest.mix has laid its words. -/
structure MixW (w W : World) (g : Nat) (s : Sha.St) (ws : List UInt32) : Prop where
  box : W.heap[w.heap.size]? = some (.cells (stV s) 145 (0, 0))
  out : ∃ z, W.heap[w.heap.size + 1]? = some (.cells z 145 (0, 0)) ∧ z.size = 8
  words : W.heap[g]? = some (.cells (cellsW ws 64) 160 (0, 0))
  below : Below w.heap.size w W
theorem MixW.drewN {w W : World} {g : Nat} {s : Sha.St} {ws : List UInt32} (h : MixW w W g s ws) (n : Nat) : MixW w (W.drewN n) g s ws :=
  ⟨h.box, h.out, h.words, ⟨h.below.os, h.below.tape, h.below.output, h.below.size, h.below.block⟩⟩
theorem wpList_any {P : Program} {ops : Array Oper} {rest : List Oper} {a : Act} {Q : Exit → Act → World → Prop} {W0 : World} (R : World → Prop) (h0 : R W0) (h : ∀ W, R W → wpList P ops Q rest a W) : wpList P ops Q rest a W0 := h W0 h0
theorem MixW.mk' {w w2 : World} {s : Sha.St} {ws : List UInt32} {Z : Array Value} (h2 : w.heap.size + 2 ≤ w2.heap.size)
    (hx : w2.heap[w.heap.size]? = some (.cells (stV s) 145 (0, 0))) (ho : ∃ z, w2.heap[w.heap.size + 1]? = some (.cells z 145 (0, 0)) ∧ z.size = 8)
    (hb : Below w.heap.size w w2) {C : Array Value} (hC : C = cellsW ws 64) : MixW w ((w2.alloc (.cells Z 160)).setRow w2.heap.size C) w2.heap.size s ws := by
  subst hC
  refine ⟨?_, ?_, ?_, ?_⟩
  · rw [setRow_other _ _ _ _ (by omega), Below.heap_alloc _ _ _ (by omega)]; exact hx
  · obtain ⟨z, hz, hl⟩ := ho
    exact ⟨z, by rw [setRow_other _ _ _ _ (by omega), Below.heap_alloc _ _ _ (by omega)]; exact hz, hl⟩
  · exact setRow_heap _ _ _ _ _ _ (heap_alloc_new _ _)
  · exact below_setRow (hb.alloc (by omega) _) (by omega) _
set_option maxRecDepth 100000 in
set_option maxHeartbeats 1000000 in
theorem mix_any (b off n c : Nat) (s : Sha.St) (bs : Nat → UInt8) (w : World) (hn : 64 ≤ n) (hn2 : n ≤ 4000000) (hb : b < w.heap.size)
    (hc : ∀ i, i < 64 → w.cell? ⟨b, off + i, none⟩ = some (.int .u8 (w8 (bs i)))) (hr : Rounds w) :
    Calls Tryz.prog 126 #[.agg (stV s), .slice (some ⟨b, off, none⟩) n c] w fun e w' =>
      e = .returned (.agg (stV (Sha.mixF s bs))) ∧ Below w.heap.size w w' := by
  have HC := Lib.hid hc; clear hc
  have HR := Lib.hid hr; clear hr
  unfold stV
  go_enter Tryz.func126, Tryz.ntmps126
  go_wp2_with fail
  refine (sched_any b off n c bs _ hn hn2 (by simp; omega) (fun i hi => ?_)).mono ?_
  · have := HC.out i hi
    go_simp
  rintro e w2 ⟨rfl, hb2⟩
  have hx : w2.heap[w.heap.size]? = some (.cells (stV s) 145 (0, 0)) := (hb2.block w.heap.size (by simp; omega)).trans (heap_alloc2_old _ _ _)
  have ho : ∃ z, w2.heap[w.heap.size + 1]? = some (.cells z 145 (0, 0)) ∧ z.size = 8 := ⟨_, (hb2.block (w.heap.size + 1) (by simp)).trans (heap_alloc2_new _ _ _), rfl⟩
  have h2 : w.heap.size + 2 ≤ w2.heap.size := by have := hb2.size; simp at this; omega
  have hbw : Below w.heap.size w w2 := (((Below.refl _ _).alloc (Nat.le_refl _) _).alloc (by simp) _).trans (hb2.mono (by simp; omega))
  clear hb2
  have HX := Lib.hid hx; have HO := Lib.hid ho; have HB := Lib.hid hbw; clear hx ho hbw
  have hsz : (cellsW (Sha.sched bs) 64).size = 64 := cellsW_size _ _ (by rw [Sha.sched, Sha.schedTo_len]; omega)
  have hone := cellsW_one (Sha.sched bs) 64
  obtain ⟨C, hC⟩ : ∃ C, C = cellsW (Sha.sched bs) 64 := ⟨_, rfl⟩
  rw [← hC] at hsz hone ⊢
  have HE := Lib.hid hC; have HZ := Lib.hid hsz; have H1 := Lib.hid hone; clear hC hsz hone
  go_wp2_with (refine wpList_store_row rfl 160 (.tmp 5) (.tmp 21) rfl w2.heap.size C rfl rfl 160 _ (heap_alloc_new _ _) (by rw [HZ.out]; kernel_rfl) (by rw [HZ.out]; rfl) H1.out ?_
               refine wpList_any (fun W => Hid (MixW w W w2.heap.size s (Sha.sched bs))) (MixW.mk' h2 HX.out HO.out HB.out HE.out) (fun W3 HM => ?_))
  have b0 : W3.cell? ⟨w.heap.size, 0, none⟩ = some (.int .u32 (w32 s.a)) := cell_of_row _ _ 0 _ _ _ HM.out.box
  have b1 : W3.cell? ⟨w.heap.size, 1, none⟩ = some (.int .u32 (w32 s.b)) := cell_of_row _ _ 1 _ _ _ HM.out.box
  have b2 : W3.cell? ⟨w.heap.size, 2, none⟩ = some (.int .u32 (w32 s.c)) := cell_of_row _ _ 2 _ _ _ HM.out.box
  have b3 : W3.cell? ⟨w.heap.size, 3, none⟩ = some (.int .u32 (w32 s.d)) := cell_of_row _ _ 3 _ _ _ HM.out.box
  have b4 : W3.cell? ⟨w.heap.size, 4, none⟩ = some (.int .u32 (w32 s.e)) := cell_of_row _ _ 4 _ _ _ HM.out.box
  have b5 : W3.cell? ⟨w.heap.size, 5, none⟩ = some (.int .u32 (w32 s.f)) := cell_of_row _ _ 5 _ _ _ HM.out.box
  have b6 : W3.cell? ⟨w.heap.size, 6, none⟩ = some (.int .u32 (w32 s.g)) := cell_of_row _ _ 6 _ _ _ HM.out.box
  have b7 : W3.cell? ⟨w.heap.size, 7, none⟩ = some (.int .u32 (w32 s.h)) := cell_of_row _ _ 7 _ _ _ HM.out.box
  go_quiet (fail)
  go_wp2
  clear b0 b1 b2 b3 b4 b5 b6 b7
  go_loopw [6, 7, 8, 9, 10, 11, 12, 13, 38]
    (fun a b c d e f g h i wr => ∃ k : Nat, k ≤ 64 ∧ i = .int .i64 k ∧ Hid (MixW w wr w2.heap.size s (Sha.sched bs)) ∧ ∃ t : Sha.St, Hid (t = Sha.rounds (Sha.sched bs) k s) ∧
      a = .int .u32 (w32 t.a) ∧ b = .int .u32 (w32 t.b) ∧ c = .int .u32 (w32 t.c) ∧ d = .int .u32 (w32 t.d) ∧ e = .int .u32 (w32 t.e) ∧ f = .int .u32 (w32 t.f) ∧ g = .int .u32 (w32 t.g) ∧ h = .int .u32 (w32 t.h))
    (fun _ _ _ _ _ _ _ _ i _ => 64 - (intOf i).toNat)
  case atStart => exact ⟨0, by omega, rfl, HM.out.drewN _, s, rfl, rfl, rfl, rfl, rfl, rfl, rfl, rfl, rfl⟩
  case round =>
    obtain ⟨k, hk, rfl, HW, t, HT, rfl, rfl, rfl, rfl, rfl, rfl, rfl, rfl⟩ := hrel
    by_cases hlt : k < 64
    · have ck : wr.cell? ⟨0, k, none⟩ = some (.int .u32 (w32 (Sha.kAt k))) := (HR.out.below HW.out.below HR.out.lt) k hlt
      have cw : wr.cell? ⟨w2.heap.size, k, none⟩ = some (.int .u32 (w32 (Sha.at_ (Sha.sched bs) k))) := by
        rw [cell_of_row _ _ _ _ _ _ HW.out.words, cellsW_get _ _ _ (by rw [Sha.sched, Sha.schedTo_len]; omega)]
      have p4 : (k : Int) < 64 := by omega
      go_wp2_with (go_at_call 142; refine (rot_any _ _ (by decide) _).mono ?_; rintro e w' ⟨rfl, rfl⟩)
      go_quiet (fail)
      go_wp2
      go_roundw
      case rel =>
        have hrs := Sha.rounds_succ HT.out
        rw [Sha.round_eq] at hrs
        exact ⟨k + 1, by omega, by go_num, Lib.hid (HW.out.drewN _), _, Lib.hid hrs, rfl, rfl, rfl, rfl, rfl, rfl, rfl, rfl⟩
      case measure => simp [intOf]; omega
    · have HK : Hid (k = 64) := by unfold Hid; omega
      have b0 : wr.cell? ⟨w.heap.size, 0, none⟩ = some (.int .u32 (w32 s.a)) := cell_of_row _ _ 0 _ _ _ HW.out.box
      have b1 : wr.cell? ⟨w.heap.size, 1, none⟩ = some (.int .u32 (w32 s.b)) := cell_of_row _ _ 1 _ _ _ HW.out.box
      have b2 : wr.cell? ⟨w.heap.size, 2, none⟩ = some (.int .u32 (w32 s.c)) := cell_of_row _ _ 2 _ _ _ HW.out.box
      have b3 : wr.cell? ⟨w.heap.size, 3, none⟩ = some (.int .u32 (w32 s.d)) := cell_of_row _ _ 3 _ _ _ HW.out.box
      have b4 : wr.cell? ⟨w.heap.size, 4, none⟩ = some (.int .u32 (w32 s.e)) := cell_of_row _ _ 4 _ _ _ HW.out.box
      have b5 : wr.cell? ⟨w.heap.size, 5, none⟩ = some (.int .u32 (w32 s.f)) := cell_of_row _ _ 5 _ _ _ HW.out.box
      have b6 : wr.cell? ⟨w.heap.size, 6, none⟩ = some (.int .u32 (w32 s.g)) := cell_of_row _ _ 6 _ _ _ HW.out.box
      have b7 : wr.cell? ⟨w.heap.size, 7, none⟩ = some (.int .u32 (w32 s.h)) := cell_of_row _ _ 7 _ _ _ HW.out.box
      obtain ⟨z, hz, hz8⟩ := HW.out.out
      have HQ := Lib.hid hz; have HQ8 := Lib.hid hz8; clear hz hz8
      go_wp2_with (refine wpList_store_row rfl 145 (.tmp 4) (.tmp 136) rfl (w.heap.size + 1) (stV (Sha.addS s t)) rfl rfl 145 z HQ.out (by kernel_rfl) (by rw [HQ8.out]; rfl) (stV_one _) ?_)
      refine bodyPost_ret (v := .agg (stV (Sha.addS s t))) (results_cell_row rfl _ _ (w.heap.size + 1) 145 (stV (Sha.addS s t)) (0, 0) _ rfl (setRow_heap _ _ _ _ _ _ HQ.out) Tryz.underlying145 rfl (by kernel_rfl)) rfl
        ⟨by rw [HT.out, HK.out]; rfl, below_setRow HW.out.below (by omega) _⟩
end Go.Proofs.YtkglgboncngpbaaGreatDoor
/- Memory that a call itself makes, byte by byte: plain facts over any program. -/
namespace Go.Proofs.YtkglgboncngpbaaGreatDoor
open Go.RowKit
/-- What the call itself has made of bytes: slice v holds the bytes l, in a block from B on. -/
def Owns (w : World) (B : Nat) (e : TypeId) (v : Value) (l : List UInt8) : Prop := w.ownsRow B e 1 v l.length (bytesV l)
theorem Owns.alloc {w : World} {B : Nat} {e : TypeId} {v : Value} {l : List UInt8} (h : Owns w B e v l) (o : Obj) : Owns (w.alloc o) B e v l := World.ownsRow.alloc h o
theorem Owns.below {w w' : World} {B B' : Nat} {e : TypeId} {v : Value} {l : List UInt8} (h : Owns w B e v l) (hb : Below B' w w') (hv : ∀ k, v.ownBlock = some k → k < B') : Owns w' B e v l := by
  refine ⟨h.1, ?_⟩
  rcases h.2 with hn | ⟨g, cap, cur, rfl, hg, hgg, rest⟩
  · exact .inl hn
  · exact .inr ⟨g, cap, cur, rfl, hg, (hb.block g (hv g rfl)).trans hgg, rest⟩
/-- The cells of a slice of bytes that the call itself has made. -/
theorem Owns.form {w : World} {B : Nat} {e : TypeId} {v : Value} {l : List UInt8} (h : Owns w B e v l) (hn : 0 < l.length) :
    ∃ g cap, v = .slice (some ⟨g, 0, none⟩) l.length cap ∧ B ≤ g ∧ g < w.heap.size ∧ l.length ≤ cap ∧ cap ≤ maxLen ∧ ∀ i, i < l.length → w.cell? ⟨g, i, none⟩ = some (bv (l.getD i 0)) := by
  rcases h.2 with ⟨_, h0⟩ | ⟨g, cap, cur, rfl, hg, hgg, h1, h2, _⟩
  · omega
  · refine ⟨g, cap, rfl, hg, (Array.getElem?_eq_some_iff.1 hgg).1, h1, h2, fun i hi => ?_⟩
    have := World.ownsRow.cellAt (size := 1) h i (by omega)
    rw [this, bytesV_get _ _ hi]
section
variable {P : Program} {ops : Array Oper} {rest : List Oper} {o : Oper} {a : Act} {Q : Exit → Act → World → Prop}
/-- append of cells that a new block holds, onto a slice of the call's own. -/
theorem wpList_push (wr : World) (hgd : o.guard = none) (s x : Operand) (t e : TypeId) (ho : o.op = .call { callee := .builtin .append, args := #[s, x], argTypes := #[t, t] })
    (B : Nat) (ht : P.underlying t = some (.slice e)) (hi : (P.info? e).map (fun i => (i.zero, i.size, i.bytes)) = some (some (.int .u8 0), 1, 1))
    (v : Value) (l : List UInt8) (hown : Owns wr B e v l) (hs : a.eval s = v) (m : Nat) (us : List UInt8) (hm : us.length = m) (cs : Array Value) (hcs : cs = (bytesV us).toArray)
    (hx : a.eval x = .slice (some ⟨wr.heap.size, 0, none⟩) m m) (hsz : l.length + m ≤ 1000000000) (hB : B ≤ wr.heap.size)
    (h : ∀ v' w', Owns w' B e v' (l ++ us) → Below B wr w' → wpList P ops Q rest (a.put o.dst v') w') : wpList P ops Q (o :: rest) a (wr.alloc (.cells cs e)) := by
  obtain ⟨i0, hi0, hz0, hz1, hz2⟩ := info_parts hi
  subst hcs
  refine wpList_append_own _ hgd s x t ho B e i0 (.int .u8 0) 1 1 ht hi0 hz0 hz1 hz2 rfl (by decide) v l.length (bytesV l) hs (World.ownsRow.alloc hown _) ⟨wr.heap.size, 0, none⟩ m m (bytesV us) hx (by rw [bytesV_len, hm]; omega) ?_ (bytesV_one us) (by unfold maxLen; omega) (by omega) (by simp; omega) ?_
  · intro j u hu
    rw [show ((⟨wr.heap.size, 0, none⟩ : Addr).add j) = ⟨wr.heap.size, j, none⟩ from by rw [Addr.add_lit, Nat.zero_add], cell_of_row _ _ _ _ _ _ (heap_alloc_new _ _)]
    simpa using hu
  · intro v' w' h1 h2 _
    refine h v' w' ?_ ?_
    · unfold Owns; rw [bytesV_app, List.length_append, hm]; exact h1
    · refine ((Below.refl B wr).alloc hB _).grown h2 (by simp; omega) (fun k hk => ?_)
      exact (World.ownsRow.lt hown k hk).1
end
/-- A slice value that reads as the bytes us; nil and empty slices too. -/
structure SliceAt (w : World) (A : Option Addr) (n c : Nat) (us : List UInt8) : Prop where
  len : us.length = n
  cap : n ≤ c
  nil : A = none → n = 0 ∧ c = 0
  some_ : ∀ ad, A = some ad → 0 < n → ∃ b off, ad = ⟨b, off, none⟩ ∧ ∀ i, i < n → w.cell? ⟨b, off + i, none⟩ = some (bv (us.getD i 0))
theorem SliceAt.below {w w' : World} {A : Option Addr} {n c : Nat} {us : List UInt8} (h : SliceAt w A n c us) (hb : Below w.heap.size w w') : SliceAt w' A n c us := by
  refine ⟨h.len, h.cap, h.nil, fun ad hA hn => ?_⟩
  obtain ⟨b, off, e, hc⟩ := h.some_ ad hA hn
  refine ⟨b, off, e, fun i hi => ?_⟩
  rw [hb.cell (p := ⟨b, off + i, none⟩) (block_lt_of_cell (hc i hi))]; exact hc i hi
section
variable {P : Program} {ops : Array Oper} {rest : List Oper} {o : Oper} {a : Act} {Q : Exit → Act → World → Prop}
/-- The same as one step of a region that draws its order. -/
theorem step_push {K : Act → World → Prop} {E : Prop} (wr : World) (hgd : o.guard = none) (s x : Operand) (t e : TypeId) (ho : o.op = .call { callee := .builtin .append, args := #[s, x], argTypes := #[t, t] })
    (B : Nat) (ht : P.underlying t = some (.slice e)) (hi : (P.info? e).map (fun i => (i.zero, i.size, i.bytes)) = some (some (.int .u8 0), 1, 1))
    (v : Value) (l : List UInt8) (hown : Owns wr B e v l) (hs : a.eval s = v) (m : Nat) (us : List UInt8) (hm : us.length = m) (cs : Array Value) (hcs : cs = (bytesV us).toArray)
    {ad : Addr} (had : ad = ⟨wr.heap.size, 0, none⟩) (hx : a.eval x = .slice (some ad) m m) {w0 : World} (hw0 : w0 = wr.alloc (.cells cs e)) (hsz : l.length + m ≤ 1000000000) (hB : B ≤ wr.heap.size)
    (h : ∀ v' w', Owns w' B e v' (l ++ us) → Below B wr w' → K (a.put o.dst v') w') : if Region.wanted o (yielded ops a.tmps) = true then Oper.wp P o a w0 K Q else E := by
  have hw : Region.wanted o (yielded ops a.tmps) = true := by simp [Region.wanted, hgd]
  rw [if_pos hw]
  obtain ⟨i0, hi0, hz0, hz1, hz2⟩ := info_parts hi
  subst hcs hw0 had
  refine wp_append_own _ s x t ho B e i0 (.int .u8 0) 1 1 ht hi0 hz0 hz1 hz2 rfl (by decide) v l.length (bytesV l) hs (World.ownsRow.alloc hown _) ⟨wr.heap.size, 0, none⟩ m m (bytesV us) hx (by rw [bytesV_len, hm]; omega) ?_ (bytesV_one us) (by unfold maxLen; omega) (by omega) (by simp; omega) ?_
  · intro j u hu
    rw [show ((⟨wr.heap.size, 0, none⟩ : Addr).add j) = ⟨wr.heap.size, j, none⟩ from by rw [Addr.add_lit, Nat.zero_add], cell_of_row _ _ _ _ _ _ (heap_alloc_new _ _)]
    simpa using hu
  · intro v' w' h1 h2 _
    refine h v' w' ?_ ?_
    · unfold Owns; rw [bytesV_app, List.length_append, hm]; exact h1
    · refine ((Below.refl B wr).alloc hB _).grown h2 (by simp; omega) (fun k hk => ?_)
      exact (World.ownsRow.lt hown k hk).1
/-- append of all bytes of another slice, onto a slice of the call's own. -/
theorem wpList_spread (wr : World) (hgd : o.guard = none) (s x : Operand) (t e : TypeId) (ho : o.op = .call { callee := .builtin .append, args := #[s, x], argTypes := #[t, t] })
    (B : Nat) (ht : P.underlying t = some (.slice e)) (hi : (P.info? e).map (fun i => (i.zero, i.size, i.bytes)) = some (some (.int .u8 0), 1, 1))
    (v : Value) (l : List UInt8) (hown : Owns wr B e v l) (hs : a.eval s = v) (A : Option Addr) (m c : Nat) (us : List UInt8) (hat : SliceAt wr A m c us)
    (hx : a.eval x = .slice A m c) (hsz : l.length + m ≤ 1000000000) (hB : B ≤ wr.heap.size)
    (h : ∀ v' w', Owns w' B e v' (l ++ us) → Below B wr w' → wpList P ops Q rest (a.put o.dst v') w') : wpList P ops Q (o :: rest) a wr := by
  obtain ⟨i0, hi0, hz0, hz1, hz2⟩ := info_parts hi
  rcases A with _ | ad
  · obtain ⟨h0, h1⟩ := hat.nil rfl
    subst h0 h1
    have hu : us = [] := List.eq_nil_of_length_eq_zero hat.len
    subst hu
    refine wpList_append_own_none hgd s x t ho B e i0 1 ht hi0 v l.length (bytesV l) hs hown hx ?_
    exact h v wr (by simpa using hown) (Below.refl _ _)
  · refine wpList_append_own _ hgd s x t ho B e i0 (.int .u8 0) 1 1 ht hi0 hz0 hz1 hz2 rfl (by decide) v l.length (bytesV l) hs hown ad m c (bytesV us) hx (by rw [bytesV_len, hat.len]; omega) ?_ (bytesV_one us) (by unfold maxLen; omega) (by omega) hB ?_
    · intro j u hu
      have hj : j < m := by
        have h1 : j < (bytesV us).length := by
          rcases Nat.lt_or_ge j (bytesV us).length with h1 | h1
          · exact h1
          · rw [List.getElem?_eq_none h1] at hu; cases hu
        rw [bytesV_len, hat.len] at h1; exact h1
      obtain ⟨b, off, rfl, hc⟩ := hat.some_ ad rfl (by omega)
      rw [bytesV_get _ _ (by rw [hat.len]; omega)] at hu
      rw [Addr.add_lit, hc j hj]; exact hu
    · intro v' w' h1 h2 _
      refine h v' w' ?_ ?_
      · unfold Owns; rw [bytesV_app, List.length_append, hat.len]; exact h1
      · exact (Below.refl B wr).grown h2 hB (fun k hk => (World.ownsRow.lt hown k hk).1)
/-- make of no bytes, with room for some. -/
theorem wpList_room' (wr : World) (hgd : o.guard = none) (l c : Operand) (t e : TypeId) (ho : o.op = Op.makeSlice t l c)
    (B : Nat) (ht : P.underlying t = some (.slice e)) (hi : (P.info? e).map (fun i => (i.zero, i.size, i.bytes)) = some (some (.int .u8 0), 1, 1))
    (n : Nat) {C : Int} (hl : a.eval l = .int .i64 0) (hc : a.eval c = .int .i64 C) (hC : C = (n : Int)) (hn : n ≤ 1000000000) (hB : B ≤ wr.heap.size)
    (h : ∀ v' w', Owns w' B e v' [] → Below B wr w' → wpList P ops Q rest (a.put o.dst v') w') : wpList P ops Q (o :: rest) a wr := by
  obtain ⟨i0, hi0, hz0, hz1, hz2⟩ := info_parts hi
  refine wpList_make_own wr hgd l c t ho B e i0 (.int .u8 0) 1 ht hi0 hz0 hz1 .i64 .i64 _ n hl hc hC (by rw [hz2]; omega) (by unfold maxLen; omega) hB ?_
  intro w' h1 h2
  exact h _ w' h1 ((Below.refl B wr).grown h2 hB (fun k hk => by cases hk))
end
theorem run_conv_owned {P : Program} (w : World) (src e dst : TypeId) (hs : P.underlying src = some (.slice e)) (he : P.underlying e = some (.int .u8)) (hd : P.underlying dst = some .string)
    (g off : Nat) (l : List UInt8) (n : Nat) (hn : l.length = n) (hc : ∀ i, i < n → w.cell? ⟨g, off + i, none⟩ = some (bv (l.getD i 0))) (cap : Nat) :
    (convert src dst (.slice (some ⟨g, off, none⟩) n cap)).run P w = .ok (.string (strOf l)) w := by
  have hsz := strOf_size l
  have h := Lib.run_convert_whole (P := P) w src e dst hs he hd g off (strOf l) (fun i hi => by
    have h1 : i < l.length := by omega
    have h2 : (strOf l)[i]'hi = l.getD i 0 := by simp [strOf, ByteArray.getElem_eq_getElem_data, h1]
    have h3 : bv (l.getD i 0) = .int .u8 (((strOf l)[i]'hi).toNat : Int) := by unfold bv w8; exact congrArg (fun x : UInt8 => Value.int .u8 (x.toNat : Int)) h2.symm
    exact (hc i (by omega)).trans (congrArg some h3)) cap
  rw [hsz, hn] at h
  exact h
/-- Byte k of a number of 8 bytes, the most significant first. -/
def sh8 (v k : Nat) : Nat := v / 2 ^ (56 - 8 * k)
def wideAt (v k : Nat) : UInt8 := UInt8.ofNat (sh8 v k)
def wideTo (v k : Nat) : List UInt8 := (List.range k).map (wideAt v)
def wide (v : Nat) : List UInt8 := wideTo v 8
theorem wideTo_succ (v k : Nat) : wideTo v (k + 1) = wideTo v k ++ [wideAt v k] := by simp [wideTo, List.range_succ]
theorem wideTo_len (v k : Nat) : (wideTo v k).length = k := by simp [wideTo]
theorem wideAt_eq (v k : Nat) : (v : Int) / 2 ^ (56 - 8 * k) % 256 = w8 (wideAt v k) := by
  unfold wideAt w8 sh8; rw [UInt8.toNat_ofNat']; simp
end Go.Proofs.YtkglgboncngpbaaGreatDoor
