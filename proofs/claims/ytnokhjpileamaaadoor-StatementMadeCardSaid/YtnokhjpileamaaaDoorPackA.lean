import Derived.Test.YtnokhjpileamaaaDoorSome
import Derived.Test.YtnokhjpileamaaaDoorForm
import Derived.Test.YtnokhjpileamaaaDoorPackD
import Derived.Test.YtnokhjpileamaaaDoorRefEncode
import Derived.Test.YtnokhjpileamaaaDoorRefSeal
import Derived.Test.YtnokhjpileamaaaDoorRefCheck
import Derived.Test.YtnokhjpileamaaaDoorSameS
import Derived.Test.YtnokhjpileamaaaDoorRefSame
/- What was written one after the other is taken again: plain facts about bytes. -/
namespace Go.Proofs.YtnokhjpileamaaaDoor
open Go.RowKit
def inI64 (x : Int) : Prop := -9223372036854775808 ≤ x ∧ x ≤ 9223372036854775807
theorem take8 (v : Int) (r : List UInt8) : (be8 v ++ r).take 8 = be8 v := by
  rw [List.take_append_of_le_length (by rw [be8_len]; exact Nat.le_refl _), List.take_of_length_le (by rw [be8_len]; exact Nat.le_refl _)]
theorem drop8 (v : Int) (r : List UInt8) : (be8 v ++ r).drop 8 = r := by
  have := List.drop_left (l₁ := be8 v) (l₂ := r)
  rw [be8_len] at this; exact this
theorem cnt_be8 (v : Int) (r : List UInt8) (h : inI64 v) : cnt (be8 v ++ r) = v := by
  unfold cnt; rw [take8, int8_be8 v h.1 h.2]
theorem drop_add (k j : Nat) (l : List UInt8) : l.drop (k + j) = (l.drop k).drop j := by rw [List.drop_drop]
theorem textB_cnt (s r : List UInt8) (h : s.length ≤ 1000000) : cnt (textB s ++ r) = (s.length : Int) := by
  unfold textB; rw [List.append_assoc]; exact cnt_be8 _ _ ⟨by omega, by omega⟩
theorem textB_text (s r : List UInt8) : ((textB s ++ r).drop 8).take s.length = s := by
  unfold textB; rw [List.append_assoc, drop8]; exact List.take_left
theorem textB_rest (s r : List UInt8) : (textB s ++ r).drop (8 + s.length) = r := by
  unfold textB; rw [drop_add, List.append_assoc, drop8]; exact List.drop_left
theorem listB_cons (x : Int) (l : List Int) : listB (x :: l) = be8 x ++ listB l := rfl
theorem listB_drop (l : List Int) : ∀ (i : Nat) (r : List UInt8), i ≤ l.length → (listB l ++ r).drop (8 * i) = listB (l.drop i) ++ r := by
  induction l with
  | nil => intro i r h; have : i = 0 := by simpa using h
           subst this; rfl
  | cons x l ih =>
    intro i r h
    cases i with
    | zero => rfl
    | succ i =>
      rw [listB_cons, List.append_assoc, show 8 * (i + 1) = 8 + 8 * i from by omega, drop_add, drop8, List.drop_succ_cons]
      exact ih i r (by simpa using h)
theorem intsB_cnt (l : List Int) (r : List UInt8) (h : l.length ≤ 1000000) : cnt (intsB l ++ r) = (l.length : Int) := by
  unfold intsB; rw [List.append_assoc]; exact cnt_be8 _ _ ⟨by omega, by omega⟩
theorem intsB_at (l : List Int) (r : List UInt8) (hl : ∀ z ∈ l, inI64 z) (i : Nat) (h : i < l.length) : intAt (intsB l ++ r) i = l[i] := by
  unfold intAt intsB
  rw [List.append_assoc, drop_add, drop8, listB_drop l i r (by omega), List.drop_eq_getElem_cons h, listB_cons, List.append_assoc, take8]
  have := hl l[i] (List.getElem_mem h)
  exact int8_be8 _ this.1 this.2
theorem intsB_list (l : List Int) (r : List UInt8) (hl : ∀ z ∈ l, inI64 z) : intsAt (intsB l ++ r) l.length = l := by
  apply List.ext_getElem
  · rw [intsAt_len]
  · intro i h1 h2
    rw [← intsB_at l r hl i h2]
    simp [intsAt]
theorem intsB_rest (l : List Int) (r : List UInt8) : (intsB l ++ r).drop (8 + 8 * l.length) = r := by
  unfold intsB
  rw [drop_add, List.append_assoc, drop8, listB_drop l _ r (Nat.le_refl _), List.drop_length]; rfl
/-- What was written is taken; a byte less, or less permitted, is not. -/
theorem text_ok (s r : List UInt8) (h : s.length ≤ 1000000) : CountOk (textB s ++ r) (s.length : Int) 1 := by
  have hc := textB_cnt s r h
  refine ⟨by rw [List.length_append, textB_len]; omega, by rw [hc]; omega, by rw [hc]; omega, ?_⟩
  rw [hc, List.length_append, textB_len, Nat.div_one]; omega
theorem text_few (s r : List UInt8) (h : s.length ≤ 1000000) : ¬ CountOk (textB s ++ r) ((s.length : Int) - 1) 1 := fun h1 => by
  have h2 := h1.le
  rw [textB_cnt s r h] at h2; omega
theorem list_ok (l : List Int) (r : List UInt8) (h : l.length ≤ 1000000) : CountOk (intsB l ++ r) (l.length : Int) 8 := by
  have hc := intsB_cnt l r h
  refine ⟨by rw [List.length_append, intsB_len]; omega, by rw [hc]; omega, by rw [hc]; omega, ?_⟩
  rw [hc, List.length_append, intsB_len]; omega
theorem list_less (l : List Int) (h : l.length ≤ 1000000) : ¬ CountOk ((intsB l).take (7 + 8 * l.length)) (l.length : Int) 8 := fun h1 => by
  have h2 := h1.fit
  have h3 := h1.len
  have hc : cnt ((intsB l).take (7 + 8 * l.length)) = (l.length : Int) := by
    unfold cnt
    rw [List.length_take, intsB_len] at h3
    rw [List.take_take, Nat.min_eq_left (by omega)]
    have := intsB_cnt l [] h
    rw [List.append_nil] at this; exact this
  rw [hc, List.length_take, intsB_len] at h2
  rw [List.length_take, intsB_len] at h3
  omega
end Go.Proofs.YtnokhjpileamaaaDoor
/- Whether a statement is light (trustflowlaw03.light). -/
namespace Go.Proofs.YtnokhjpileamaaaDoor
open Go.RowKit
def lightB (s : Stm) : Bool := decide (s.list.length ≤ 100) && decide (s.pins.length ≤ 100) && decide (s.body.size ≤ 5000) && decide (s.prev.size ≤ 100) && decide (s.dig.size ≤ 100)
set_option maxHeartbeats 1000000 in
theorem lightS_any (s : Stm) (A : Option Addr) (n c : Nat) (B : Option Addr) (m k : Nat) (w : World) (hl : s.list.length = n) (hp : s.pins.length = m) :
    Calls Tryd.prog 6 #[stmV s A n c B m k] w (SaysL (.bool (lightB s)) w) := by
  have HS : Hid (lightB s = (decide (n ≤ 100) && decide (m ≤ 100) && decide (s.body.size ≤ 5000) && decide (s.prev.size ≤ 100) && decide (s.dig.size ≤ 100))) := by unfold Hid lightB; rw [hl, hp]
  clear hl hp
  obtain ⟨author, number, prev, time, kind, a, b, cc, list, pins, body, key, dig⟩ := s
  unfold stmV
  simp only at HS
  generalize lightB _ = R at HS ⊢
  go_enter Tryd.func6, Tryd.ntmps6
  by_cases g1 : n ≤ 100
  case neg =>
    go_wp2
    go_ret
    exact ⟨by rw [HS.out, decide_eq_false g1]; rfl, one_new _ _⟩
  by_cases g2 : m ≤ 100
  case neg =>
    go_wp2
    go_ret
    exact ⟨by rw [HS.out, decide_eq_true g1, decide_eq_false g2]; rfl, one_new _ _⟩
  by_cases g3 : body.size ≤ 5000
  case neg =>
    go_wp2
    go_ret
    exact ⟨by rw [HS.out, decide_eq_true g1, decide_eq_true g2, decide_eq_false g3]; rfl, one_new _ _⟩
  by_cases g4 : prev.size ≤ 100
  case neg =>
    go_wp2
    go_ret
    exact ⟨by rw [HS.out, decide_eq_true g1, decide_eq_true g2, decide_eq_true g3, decide_eq_false g4]; rfl, one_new _ _⟩
  have h5 : decide ((dig.size : Int) ≤ 100) = decide (dig.size ≤ 100) := decide_eq_decide.mpr (by omega)
  go_wp2
  go_ret
  refine ⟨?_, one_new _ _⟩
  rw [HS.out, decide_eq_true g1, decide_eq_true g2, decide_eq_true g3, decide_eq_true g4, ← h5]
  rfl
end Go.Proofs.YtnokhjpileamaaaDoor
/- What is written of a statement is read again: plain facts. -/
namespace Go.Proofs.YtnokhjpileamaaaDoor
open Go.RowKit
theorem takeI_of (v : Int) (r : List UInt8) (h : inI64 v) : takeI (be8 v ++ r) = (v, r, true) := by
  unfold takeI
  rw [if_pos (by rw [List.length_append, be8_len]; omega), cnt_be8 v r h, drop8]
theorem takeS_of (s : ByteArray) (r : List UInt8) (most : Int) (h : s.size ≤ 1000000) (hm : (s.size : Int) ≤ most) : takeS (textB s.data.toList ++ r) most = (s, r, true) := by
  have hz : s.data.toList.length = s.size := str_len s
  have hc := textB_cnt s.data.toList r (by omega)
  have hk : CountOk (textB s.data.toList ++ r) most 1 := by
    have h0 := text_ok s.data.toList r (by omega)
    exact ⟨h0.len, h0.nn, by rw [hc, hz]; exact hm, h0.fit⟩
  unfold takeS
  rw [if_pos hk, hc, Int.toNat_natCast, textB_text, textB_rest, strOf_data]
theorem takeL_of (l : List Int) (r : List UInt8) (most : Int) (h : l.length ≤ 1000000) (hm : (l.length : Int) ≤ most) (hl : ∀ z ∈ l, inI64 z) : takeL (intsB l ++ r) most = (l, r, true) := by
  have hc := intsB_cnt l r h
  have hk : CountOk (intsB l ++ r) most 8 := by
    have h0 := list_ok l r h
    exact ⟨h0.len, h0.nn, by rw [hc]; exact hm, h0.fit⟩
  unfold takeL
  rw [if_pos hk, hc, Int.toNat_natCast, intsB_list l r hl, intsB_rest]
/-- A pin whose parts can be written. -/
structure PinFits (p : PinD) : Prop where
  author : inI64 p.author
  height : inI64 p.height
  digest : p.digest.size ≤ 32
theorem pin_of (p : PinD) (r : List UInt8) (h : PinFits p) : pinAt (pinBs p ++ r) = p ∧ pinRest (pinBs p ++ r) = r ∧ pinOk (pinBs p ++ r) = true := by
  have e : pinBs p ++ r = be8 p.author ++ (be8 p.height ++ (textB p.digest.data.toList ++ r)) := by simp [pinBs, listB]
  have h1 := takeI_of p.author (be8 p.height ++ (textB p.digest.data.toList ++ r)) h.author
  have h2 := takeI_of p.height (textB p.digest.data.toList ++ r) h.height
  have h3 := takeS_of p.digest r 32 (by have := h.digest; omega) (by have := h.digest; omega)
  unfold pinAt pinRest pinOk
  rw [e, h1]; simp only
  rw [h2]; simp only
  rw [h3]
  exact ⟨rfl, rfl, rfl⟩
theorem pinsL_of : ∀ (k : Nat) (l : List PinD) (r : List UInt8), l.length = k → (∀ p ∈ l, PinFits p) → pinsL k (pinsBs l ++ r) = (l, r, true)
  | 0, l, r, h, _ => by rw [List.eq_nil_of_length_eq_zero h]; rfl
  | k + 1, l, r, h, hp => by
    have hl : l ≠ [] := fun e => by rw [e] at h; simp at h
    have e := List.dropLast_concat_getLast hl
    have h1 := pinsL_of k l.dropLast (pinBs (l.getLast hl) ++ r) (by simp [h]) (fun p hp1 => hp p ((List.dropLast_subset l) hp1))
    have h2 := pin_of (l.getLast hl) r (hp _ (List.getLast_mem hl))
    have e2 : pinsBs l ++ r = pinsBs l.dropLast ++ (pinBs (l.getLast hl) ++ r) := by
      conv => lhs; rw [← e]
      rw [pinsBs_snoc, List.append_assoc]
    rw [e2]
    show ((pinsL k _).1 ++ [pinAt (pinsL k _).2.1], pinRest (pinsL k _).2.1, (pinsL k _).2.2 && pinOk (pinsL k _).2.1) = _
    rw [h1]
    simp only
    rw [h2.1, h2.2.1, h2.2.2, e]
    rfl
theorem takeP_of (l : List PinD) (r : List UInt8) (h : l.length ≤ 64) (hp : ∀ p ∈ l, PinFits p) : takeP (be8 (l.length : Int) ++ (pinsBs l ++ r)) = (l, r, true) := by
  unfold takeP
  rw [takeI_of _ _ ⟨by omega, by omega⟩]
  simp only
  rw [Int.toNat_natCast, pinsL_of l.length l r rfl hp]
  have : btw (l.length : Int) 0 64 = true := by simp [btw]; omega
  rw [this]; rfl
/-- A statement whose parts can be written. -/
structure Fits (s : Stm) : Prop where
  n0 : inI64 s.author
  n1 : inI64 s.number
  n2 : s.prev.size ≤ 32
  n3 : inI64 s.time
  n4 : inI64 s.kind
  n5 : inI64 s.a
  n6 : inI64 s.b
  n7 : inI64 s.c
  n8 : s.list.length ≤ 64
  m8 : ∀ z ∈ s.list, inI64 z
  n9 : s.pins.length ≤ 64
  m9 : ∀ p ∈ s.pins, PinFits p
  n10 : s.body.size ≤ 4096
  n11 : inI64 s.key
  n12 : s.dig.size ≤ 32
theorem parse_whole (s : Stm) (h : Fits s) : parse (wholeB s) = (s, [], true) := by
  have e : wholeB s = be8 s.author ++ (be8 s.number ++ (textB s.prev.data.toList ++ (be8 s.time ++ (be8 s.kind ++ (be8 s.a ++ (be8 s.b ++ (be8 s.c ++ (intsB s.list ++ (be8 (s.pins.length : Int) ++ (pinsBs s.pins ++ (textB s.body.data.toList ++ (be8 s.key ++ (textB s.dig.data.toList ++ []))))))))))))) := by
    simp [wholeB, bodyB, listB]
  obtain ⟨X0, X1, X2, X3, X4, X5, X6, X7, X8, X9, X10, X11, X12, h0, h1, h2, h3, h4, h5, h6, h7, h8, h9, h10, h11, h12, hp⟩ := parse_parts (wholeB s)
  rw [e, takeI_of _ _ h.n0] at h0; subst h0; simp only at h1
  rw [takeI_of _ _ h.n1] at h1; subst h1; simp only at h2
  rw [takeS_of _ _ _ (by have := h.n2; omega) (by have := h.n2; omega)] at h2; subst h2; simp only at h3
  rw [takeI_of _ _ h.n3] at h3; subst h3; simp only at h4
  rw [takeI_of _ _ h.n4] at h4; subst h4; simp only at h5
  rw [takeI_of _ _ h.n5] at h5; subst h5; simp only at h6
  rw [takeI_of _ _ h.n6] at h6; subst h6; simp only at h7
  rw [takeI_of _ _ h.n7] at h7; subst h7; simp only at h8
  rw [takeL_of _ _ _ (by have := h.n8; omega) (by have := h.n8; omega) h.m8] at h8; subst h8; simp only at h9
  rw [takeP_of _ _ h.n9 h.m9] at h9; subst h9; simp only at h10
  rw [takeS_of _ _ _ (by have := h.n10; omega) (by have := h.n10; omega)] at h10; subst h10; simp only at h11
  rw [takeI_of _ _ h.n11] at h11; subst h11; simp only at h12
  rw [takeS_of _ _ _ (by have := h.n12; omega) (by have := h.n12; omega)] at h12; subst h12
  rw [hp]
  rfl
/-- The statement that awake seals. -/
def vouch : Stm := ⟨2, 0, ⟨#[]⟩, 7, 1, 5, 1, 100, [], [], ⟨#[]⟩, 0, ⟨#[]⟩⟩
theorem vouch_fits : Fits (sealOf vouch) :=
  ⟨⟨by decide, by decide⟩, ⟨by decide, by decide⟩, by decide, ⟨by decide, by decide⟩, ⟨by decide, by decide⟩, ⟨by decide, by decide⟩, ⟨by decide, by decide⟩, ⟨by decide, by decide⟩, by decide, (by intro z h; cases h), by decide, (by intro z h; cases h), by decide, ⟨by decide, by decide⟩, by show (digS vouch).size ≤ 32; rw [digS_size]; exact Nat.le_refl _⟩
theorem vouch_small : Small vouch := ⟨by decide, by decide, by decide, by decide, by decide, by decide⟩
theorem vouch_sealed_small : Small (sealOf vouch) := ⟨by decide, by decide, by decide, by decide, by decide, by show (digS vouch).size ≤ _; rw [digS_size]; decide⟩
theorem vouch_check : checkV (sealOf vouch) = 0 := by decide
theorem sealed_seal (s : Stm) : sealedB (sealOf s) = true := by
  have : digS (sealOf s) = digS s := rfl
  unfold sealedB
  rw [this]
  simp [sealOf]
theorem vouch_encE : encE (sealOf vouch) = 0 := by unfold encE; rw [vouch_check, if_pos rfl, sealed_seal, if_pos rfl]
theorem vouch_encB : encB (sealOf vouch) = wholeB (sealOf vouch) := by unfold encB; rw [vouch_check, if_pos rfl, sealed_seal, if_pos rfl]
theorem vouch_decOk : decOk (wholeB (sealOf vouch)) = true := by
  have h := parse_whole _ vouch_fits
  have h1 : readOk (wholeB (sealOf vouch)) = true := by unfold readOk; rw [h]; rfl
  have h2 : readS (wholeB (sealOf vouch)) = sealOf vouch := by unfold readS; rw [if_pos h1, h]
  unfold decOk
  rw [h1, h2, vouch_check, sealed_seal]; rfl
theorem vouch_decS : decS (wholeB (sealOf vouch)) = sealOf vouch := by
  have h := parse_whole _ vouch_fits
  have h1 : readOk (wholeB (sealOf vouch)) = true := by unfold readOk; rw [h]; rfl
  unfold decS
  rw [if_pos vouch_decOk]
  unfold readS; rw [if_pos h1, h]
theorem vouch_decE : decE (wholeB (sealOf vouch)) = 0 := by unfold decE; rw [if_pos vouch_decOk]
theorem vouch_len : (wholeB (sealOf vouch)).length ≤ 900000 := by
  unfold wholeB
  rw [List.length_append, List.length_append, textS_len, show (sealOf vouch).dig.size = 32 from digS_size vouch]
  have h1 : (bodyB (sealOf vouch)).length = 88 := by decide
  have h2 : (listB [(sealOf vouch).key]).length = 8 := by decide
  omega
end Go.Proofs.YtnokhjpileamaaaDoor
/- The walk of trustflowlaw03.agree. -/
namespace Go.Proofs.YtnokhjpileamaaaDoor
open Go.RowKit
/-- Two blocks that a call has made first, and what lay before. -/
def Two (w : World) (cs co : Obj) (x : World) : Prop := Below w.heap.size w x ∧ x.heap[w.heap.size]? = some cs ∧ x.heap[w.heap.size + 1]? = some co ∧ w.heap.size + 1 < x.heap.size
theorem two_new (w : World) (cs co : Obj) : Two w cs co ((w.alloc cs).alloc co) := by
  refine ⟨(one_new w cs).trans ((one_new _ co).mono (by simp)), ((one_new (w.alloc cs) co).block w.heap.size (by simp)).trans (heap_alloc_new w cs), ?_, by simp⟩
  have := heap_alloc_new (w.alloc cs) co
  rw [show (w.alloc cs).heap.size = w.heap.size + 1 by simp] at this
  exact this
theorem Two.later {w : World} {cs co : Obj} {x y : World} (h : Two w cs co x) (hb : Below x.heap.size x y) : Two w cs co y :=
  ⟨h.1.trans (hb.mono h.1.size), (hb.block _ (by have := h.2.2.2; omega)).trans h.2.1, (hb.block _ h.2.2.2).trans h.2.2.1, Nat.lt_of_lt_of_le h.2.2.2 hb.size⟩
/-- What Encode gives, of a given error and given bytes. -/
def Enc2 (w : World) (E : Int) (EB : List UInt8) (e : Ending) (w' : World) : Prop := ∃ A m c, e = .returned (.tuple #[.slice A m c, .int .i64 E]) ∧ BRow w' A m c EB ∧ Below w.heap.size w w'
theorem seal_small {s : Stm} (h : Small s) : Small (sealOf s) := ⟨h.prev, h.list, h.pins, h.all, h.body, by show (digS s).size ≤ _; rw [digS_size]; decide⟩
set_option maxRecDepth 100000 in
set_option maxHeartbeats 4000000 in
theorem agree_any (s : Stm) (A : Option Addr) (n c : Nat) (B : Option Addr) (m k : Nat) (o : Stm) (A2 : Option Addr) (n2 c2 : Nat) (B2 : Option Addr) (m2 k2 : Nat) (w : World)
    (hl : IRow w A n c s.list) (hp : PRow w B m k s.pins) (hl2 : IRow w A2 n2 c2 o.list) (hp2 : PRow w B2 m2 k2 o.pins) (hs : Small s) (hr : Rounds w) :
    Calls Tryd.prog 8 #[stmV s A n c B m k, stmV o A2 n2 c2 B2 m2 k2] w (SaysL (.bool true) w) := by
  have hn : n ≤ 1000 := by rw [← hl.len]; exact hs.list
  have hm : m ≤ 1000 := by rw [← hp.len]; exact hs.pins
  have HE1 : Hid (∀ w', Below w.heap.size w w' → Calls Tryd.prog 23 #[stmV s A n c B m k] w' (Enc2 w' (encE s) (encB s))) := Lib.hid fun w' h => encode_any s A n c B m k w' (hl.later h) (hp.later h) hs (hr.later h)
  have HE2 : Hid (∀ w', Below w.heap.size w w' → Calls Tryd.prog 19 #[stmV s A n c B m k] w' (Enc2 w' (encE s) (encB s))) := Lib.hid fun w' h => refEncode_any s A n c B m k w' (hl.later h) (hp.later h) hs
  have HC1 : Hid (∀ w', Below w.heap.size w w' → Calls Tryd.prog 26 #[stmV s A n c B m k] w' (SaysL (.int .i64 (checkV s)) w')) := Lib.hid fun w' h => check_any s A n c B m k w' (hl.later h) (hp.later h) (by omega) (by omega) (by have := hs.body; omega)
  have HC2 : Hid (∀ w', Below w.heap.size w w' → Calls Tryd.prog 28 #[stmV s A n c B m k] w' (SaysL (.int .i64 (checkV s)) w')) := Lib.hid fun w' h => refCheck_any s A n c B m k w' (hl.later h) (hp.later h) (by omega) (by omega) (by have := hs.body; omega)
  have HB1 : Hid (∀ w', Below w.heap.size w w' → Calls Tryd.prog 29 #[stmV s A n c B m k] w' (GivesO w' (bodyB s))) := Lib.hid fun w' h => bytes_own s A n c B m k w' (hl.later h) (hp.later h) hs
  have HB2 : Hid (∀ w', Below w.heap.size w w' → Calls Tryd.prog 30 #[stmV s A n c B m k] w' (GivesB w' (bodyB s))) := Lib.hid fun w' h => refBytes_any s A n c B m k w' (hl.later h) (hp.later h) hs
  have HD1 : Hid (∀ w', Below w.heap.size w w' → Calls Tryd.prog 25 #[stmV s A n c B m k] w' (SaysL (.string (digS s)) w')) := Lib.hid fun w' h => digest_any s A n c B m k w' (hl.later h) (hp.later h) hs (hr.later h)
  have HD2 : Hid (∀ w', Below w.heap.size w w' → Calls Tryd.prog 31 #[stmV s A n c B m k] w' (SaysL (.string (digS s)) w')) := Lib.hid fun w' h => refDigest_any s A n c B m k w' (hl.later h) (hp.later h) hs
  have HS1 : Hid (∀ w', Below w.heap.size w w' → Calls Tryd.prog 21 #[stmV s A n c B m k] w' (SaysL (.bool (sealedB s)) w')) := Lib.hid fun w' h => sealed_any s A n c B m k w' (hl.later h) (hp.later h) hs (hr.later h)
  have HS2 : Hid (∀ w', Below w.heap.size w w' → Calls Tryd.prog 32 #[stmV s A n c B m k] w' (SaysL (.bool (sealedB s)) w')) := Lib.hid fun w' h => refSealed_any s A n c B m k w' (hl.later h) (hp.later h) hs
  obtain ⟨SS, hSS⟩ : ∃ SS, SS = sealOf s := ⟨_, rfl⟩
  have hSl : SS.list = s.list := by rw [hSS]; rfl
  have hSp : SS.pins = s.pins := by rw [hSS]; rfl
  have HL1 : Hid (∀ w', Below w.heap.size w w' → Calls Tryd.prog 20 #[stmV s A n c B m k] w' (SaysL (stmV SS A n c B m k) w')) := Lib.hid fun w' h => by rw [hSS]; exact seal_any s A n c B m k w' (hl.later h) (hp.later h) hs (hr.later h)
  have HL2 : Hid (∀ w', Below w.heap.size w w' → Calls Tryd.prog 9 #[stmV s A n c B m k] w' (GivesS w' SS)) := Lib.hid fun w' h => by rw [hSS]; exact refSeal_any s A n c B m k w' (hl.later h) (hp.later h) hs
  have HL3 : Hid (∀ w', Below w.heap.size w w' → ∀ A3 n3 c3 B3 m3 k3, IRow w' A3 n3 c3 SS.list → PRow w' B3 m3 k3 SS.pins → Calls Tryd.prog 22 #[stmV SS A n c B m k, stmV SS A3 n3 c3 B3 m3 k3] w' (SaysL (.bool true) w')) := Lib.hid fun w' h A3 n3 c3 B3 m3 k3 h1 h2 => by
    have := refSame_any SS A n c B m k SS A3 n3 c3 B3 m3 k3 w' (by rw [hSl]; exact hl.later h) (by rw [hSp]; exact hp.later h) h1 h2 (by omega) (by omega)
    rw [sameS_self] at this; exact this
  have HO1 : Hid (∀ w', Below w.heap.size w w' → Calls Tryd.prog 27 #[stmV s A n c B m k, stmV o A2 n2 c2 B2 m2 k2] w' (SaysL (.bool (sameS s o)) w')) := Lib.hid fun w' h => same_any s A n c B m k o A2 n2 c2 B2 m2 k2 w' (hl.later h) (hp.later h) (hl2.later h) (hp2.later h) (by omega) (by omega)
  have HO2 : Hid (∀ w', Below w.heap.size w w' → Calls Tryd.prog 22 #[stmV s A n c B m k, stmV o A2 n2 c2 B2 m2 k2] w' (SaysL (.bool (sameS s o)) w')) := Lib.hid fun w' h => refSame_any s A n c B m k o A2 n2 c2 B2 m2 k2 w' (hl.later h) (hp.later h) (hl2.later h) (hp2.later h) (by omega) (by omega)
  have HO3 : Hid (∀ w', Below w.heap.size w w' → Calls Tryd.prog 27 #[stmV s A n c B m k, stmV s A n c B m k] w' (SaysL (.bool true) w')) := Lib.hid fun w' h => by
    have := same_any s A n c B m k s A n c B m k w' (hl.later h) (hp.later h) (hl.later h) (hp.later h) (by omega) (by omega)
    rw [sameS_self] at this; exact this
  clear hl hp hl2 hp2 hs hr hSS hSl hSp hn hm
  generalize encE s = E at HE1 HE2
  generalize encB s = EB at HE1 HE2
  generalize checkV s = cv at HC1 HC2
  generalize bodyB s = us at HB1 HB2
  generalize digS s = D at HD1 HD2
  generalize sealedB s = sb at HS1 HS2
  generalize sameS s o = so at HO1 HO2
  obtain ⟨TB, hTB⟩ : ∃ t, t = strOf us := ⟨_, rfl⟩
  obtain ⟨TE, hTE⟩ : ∃ t, t = strOf EB := ⟨_, rfl⟩
  have HTB := Lib.hid hTB; have HTE := Lib.hid hTE; clear hTB hTE
  obtain ⟨author, number, prev, time, kind, a, b, cc, list, pins, body, key, dig⟩ := s
  obtain ⟨y0, y1, y2, y3, y4, y5, y6, y7, y8, y9, y10, y11, y12⟩ := o
  have eS : stmV ⟨author, number, prev, time, kind, a, b, cc, list, pins, body, key, dig⟩ A n c B m k = .agg #[.int .i64 author, .int .i64 number, .string prev, .int .i64 time, .int .i64 kind, .int .i64 a, .int .i64 b, .int .i64 cc, .slice A n c, .slice B m k, .string body, .int .i64 key, .string dig] := rfl
  have eO : stmV ⟨y0, y1, y2, y3, y4, y5, y6, y7, y8, y9, y10, y11, y12⟩ A2 n2 c2 B2 m2 k2 = .agg #[.int .i64 y0, .int .i64 y1, .string y2, .int .i64 y3, .int .i64 y4, .int .i64 y5, .int .i64 y6, .int .i64 y7, .slice A2 n2 c2, .slice B2 m2 k2, .string y10, .int .i64 y11, .string y12] := rfl
  rw [eS] at HE1 HE2 HC1 HC2 HB1 HB2 HD1 HD2 HS1 HS2 HL1 HL2 HO3
  rw [eS, eO] at HO1 HO2 ⊢
  clear eS eO
  have HT := Lib.hid (two_new w (.cells #[.int .i64 author, .int .i64 number, .string prev, .int .i64 time, .int .i64 kind, .int .i64 a, .int .i64 b, .int .i64 cc, .slice A n c, .slice B m k, .string body, .int .i64 key, .string dig] 27) (.cells #[.int .i64 y0, .int .i64 y1, .string y2, .int .i64 y3, .int .i64 y4, .int .i64 y5, .int .i64 y6, .int .i64 y7, .slice A2 n2 c2, .slice B2 m2 k2, .string y10, .int .i64 y11, .string y12] 27))
  go_enter Tryd.func8, Tryd.ntmps8
  obtain ⟨hc0, hc1, hc2, hc3, hc4, hc5, hc6, hc7, hc8, hc9, hc10, hc11, hc12⟩ := stm_cells (A := A) (n := n) (c := c) (B := B) (m := m) (k := k) (s := ⟨author, number, prev, time, kind, a, b, cc, list, pins, body, key, dig⟩) HT.out.2.1
  go_wp2_with fail
  clear hc0 hc1 hc2 hc3 hc4 hc5 hc6 hc7 hc8 hc9 hc10 hc11 hc12
  refine (HE1.out _ HT.out.1).mono ?_
  rintro e w1 ⟨A1, m1, c1, rfl, hr, hb⟩
  have HRa := Lib.hid hr; replace HT := Lib.hid (HT.out.later hb); clear hr hb
  obtain ⟨hc0, hc1, hc2, hc3, hc4, hc5, hc6, hc7, hc8, hc9, hc10, hc11, hc12⟩ := stm_cells (A := A) (n := n) (c := c) (B := B) (m := m) (k := k) (s := ⟨author, number, prev, time, kind, a, b, cc, list, pins, body, key, dig⟩) HT.out.2.1
  go_wp2_with fail
  clear hc0 hc1 hc2 hc3 hc4 hc5 hc6 hc7 hc8 hc9 hc10 hc11 hc12
  refine (HE2.out _ HT.out.1).mono ?_
  rintro e w2 ⟨A3, m3, c3, rfl, hr, hb⟩
  have HRb := Lib.hid hr; replace HRa := Lib.hid (HRa.out.later hb); replace HT := Lib.hid (HT.out.later hb); clear hr hb
  go_wp2_with fail
  refine wp_region_grow (by kernel_rfl) Later Later.refl (fun _ _ _ => Later.trans) [60, 61] [([0, 2], 1), ([], 3), ([4, 5, 6, 9], 7), ([8], 10), ([11, 12, 13, 14, 15, 17], 16), ([], 18), ([19, 20, 21, 22, 24], 23), ([], 25), ([26, 27, 28, 29, 31], 30), ([], 32), ([], 33), ([34, 35, 36, 37, 38, 39, 40, 41, 42, 43, 44, 45, 46, 47, 48, 49, 51, 52], 50), ([], 53), ([54, 55, 56, 57, 58], 59)] (by kernel_rfl) (by kernel_rfl) (by kernel_rfl) ?_
  simp only [List.map_cons, List.map_nil, pick, List.getD_cons_zero, List.getD_cons_succ]
  replace HRa := Lib.hid (HRa.out.later (Later.drew w2)); replace HRb := Lib.hid (HRb.out.later (Later.drew w2)); replace HT := Lib.hid (HT.out.later (Later.drew w2))
  generalize w2.drew = w3 at HRa HRb HT ⊢
  refine wpGrow_cons ?_
  obtain ⟨hf0, hf1, hf2, hf3, hf4, hf5, hf6, hf7, hf8, hf9, hf10, hf11, hf12⟩ := stm_futs (F := Later) Later.refl (A := A) (n := n) (c := c) (B := B) (m := m) (k := k) (s := ⟨author, number, prev, time, kind, a, b, cc, list, pins, body, key, dig⟩) (W := w3) (fun w' h => h.block _ (by have := HT.out.2.2.2; omega)) HT.out.2.1
  repeat (go_big_quiet_step (fail))
  refine wpQuiet_nil ?_
  clear hf0 hf1 hf2 hf3 hf4 hf5 hf6 hf7 hf8 hf9 hf10 hf11 hf12
  go_wp2_with fail
  refine (HC1.out _ HT.out.1).mono ?_
  rintro e w4 ⟨rfl, hb⟩
  have HF : Hid (Later w3 w4) := Lib.hid hb; replace HT := Lib.hid (HT.out.later hb); replace HRa := Lib.hid (HRa.out.later hb); replace HRb := Lib.hid (HRb.out.later hb); clear hb
  go_wp2_with fail
  refine pieceEnd_normal ⟨HF.out, ?_⟩
  clear HF
  refine wpGrow_cons ?_
  refine wpQuiet_nil ?_
  go_wp2_with fail
  refine (HC2.out _ HT.out.1).mono ?_
  rintro e w5 ⟨rfl, hb⟩
  have HF : Hid (Later w4 w5) := Lib.hid hb; replace HT := Lib.hid (HT.out.later hb); replace HRa := Lib.hid (HRa.out.later hb); replace HRb := Lib.hid (HRb.out.later hb); clear hb
  go_wp2_with fail
  refine pieceEnd_normal ⟨HF.out, ?_⟩
  clear HF
  refine wpGrow_cons ?_
  obtain ⟨hf0, hf1, hf2, hf3, hf4, hf5, hf6, hf7, hf8, hf9, hf10, hf11, hf12⟩ := stm_futs (F := Later) Later.refl (A := A) (n := n) (c := c) (B := B) (m := m) (k := k) (s := ⟨author, number, prev, time, kind, a, b, cc, list, pins, body, key, dig⟩) (W := w5) (fun w' h => h.block _ (by have := HT.out.2.2.2; omega)) HT.out.2.1
  repeat (go_big_quiet_step (fail))
  refine wpQuiet_nil ?_
  clear hf0 hf1 hf2 hf3 hf4 hf5 hf6 hf7 hf8 hf9 hf10 hf11 hf12
  go_wp2_with fail
  refine (HB1.out _ HT.out.1).mono ?_
  rintro e w6 ⟨v, rfl, ho, hb⟩
  obtain ⟨Ab, cb, rfl, hr⟩ := ho.row
  have HRc := Lib.hid hr; clear hr ho
  have HF : Hid (Later w5 w6) := Lib.hid hb; replace HT := Lib.hid (HT.out.later hb); replace HRa := Lib.hid (HRa.out.later hb); replace HRb := Lib.hid (HRb.out.later hb); clear hb
  go_wp2_with fail
  refine pieceEnd_normal ⟨HF.out, ?_⟩
  clear HF
  refine wpGrow_cons ?_
  have hcv1 := fun x => conv_fut HRc.out HTB.out x
  repeat (go_big_quiet_step (fail))
  refine wpQuiet_nil ?_
  clear hcv1 HRc
  go_wp2_with fail
  refine (HB2.out _ HT.out.1).mono ?_
  rintro e w7 ⟨Ad, md, cd, rfl, -, hr, -, hb⟩
  have HRd := Lib.hid hr; clear hr
  have HF : Hid (Later w6 w7) := Lib.hid hb; replace HT := Lib.hid (HT.out.later hb); replace HRa := Lib.hid (HRa.out.later hb); replace HRb := Lib.hid (HRb.out.later hb); clear hb
  go_wp2_with fail
  refine pieceEnd_normal ⟨HF.out, ?_⟩
  clear HF
  refine wpGrow_cons ?_
  obtain ⟨hf0, hf1, hf2, hf3, hf4, hf5, hf6, hf7, hf8, hf9, hf10, hf11, hf12⟩ := stm_futs (F := Later) Later.refl (A := A) (n := n) (c := c) (B := B) (m := m) (k := k) (s := ⟨author, number, prev, time, kind, a, b, cc, list, pins, body, key, dig⟩) (W := w7) (fun w' h => h.block _ (by have := HT.out.2.2.2; omega)) HT.out.2.1
  have hcv1 := fun x => conv_fut HRd.out HTB.out x
  repeat (go_big_quiet_step (fail))
  refine wpQuiet_nil ?_
  clear hf0 hf1 hf2 hf3 hf4 hf5 hf6 hf7 hf8 hf9 hf10 hf11 hf12
  clear hcv1 HRd
  go_wp2_with fail
  refine (HD1.out _ HT.out.1).mono ?_
  rintro e w8 ⟨rfl, hb⟩
  have HF : Hid (Later w7 w8) := Lib.hid hb; replace HT := Lib.hid (HT.out.later hb); replace HRa := Lib.hid (HRa.out.later hb); replace HRb := Lib.hid (HRb.out.later hb); clear hb
  go_wp2_with fail
  refine pieceEnd_normal ⟨HF.out, ?_⟩
  clear HF
  refine wpGrow_cons ?_
  refine wpQuiet_nil ?_
  go_wp2_with fail
  refine (HD2.out _ HT.out.1).mono ?_
  rintro e w9 ⟨rfl, hb⟩
  have HF : Hid (Later w8 w9) := Lib.hid hb; replace HT := Lib.hid (HT.out.later hb); replace HRa := Lib.hid (HRa.out.later hb); replace HRb := Lib.hid (HRb.out.later hb); clear hb
  go_wp2_with fail
  refine pieceEnd_normal ⟨HF.out, ?_⟩
  clear HF
  refine wpGrow_cons ?_
  obtain ⟨hf0, hf1, hf2, hf3, hf4, hf5, hf6, hf7, hf8, hf9, hf10, hf11, hf12⟩ := stm_futs (F := Later) Later.refl (A := A) (n := n) (c := c) (B := B) (m := m) (k := k) (s := ⟨author, number, prev, time, kind, a, b, cc, list, pins, body, key, dig⟩) (W := w9) (fun w' h => h.block _ (by have := HT.out.2.2.2; omega)) HT.out.2.1
  repeat (go_big_quiet_step (fail))
  refine wpQuiet_nil ?_
  clear hf0 hf1 hf2 hf3 hf4 hf5 hf6 hf7 hf8 hf9 hf10 hf11 hf12
  go_wp2_with fail
  refine (HS1.out _ HT.out.1).mono ?_
  rintro e w10 ⟨rfl, hb⟩
  have HF : Hid (Later w9 w10) := Lib.hid hb; replace HT := Lib.hid (HT.out.later hb); replace HRa := Lib.hid (HRa.out.later hb); replace HRb := Lib.hid (HRb.out.later hb); clear hb
  go_wp2_with fail
  refine pieceEnd_normal ⟨HF.out, ?_⟩
  clear HF
  refine wpGrow_cons ?_
  refine wpQuiet_nil ?_
  go_wp2_with fail
  refine (HS2.out _ HT.out.1).mono ?_
  rintro e w11 ⟨rfl, hb⟩
  have HF : Hid (Later w10 w11) := Lib.hid hb; replace HT := Lib.hid (HT.out.later hb); replace HRa := Lib.hid (HRa.out.later hb); replace HRb := Lib.hid (HRb.out.later hb); clear hb
  go_wp2_with fail
  refine pieceEnd_normal ⟨HF.out, ?_⟩
  clear HF
  refine wpGrow_cons ?_
  obtain ⟨hf0, hf1, hf2, hf3, hf4, hf5, hf6, hf7, hf8, hf9, hf10, hf11, hf12⟩ := stm_futs (F := Later) Later.refl (A := A) (n := n) (c := c) (B := B) (m := m) (k := k) (s := ⟨author, number, prev, time, kind, a, b, cc, list, pins, body, key, dig⟩) (W := w11) (fun w' h => h.block _ (by have := HT.out.2.2.2; omega)) HT.out.2.1
  repeat (go_big_quiet_step (fail))
  refine wpQuiet_nil ?_
  clear hf0 hf1 hf2 hf3 hf4 hf5 hf6 hf7 hf8 hf9 hf10 hf11 hf12
  go_wp2_with fail
  refine (HL1.out _ HT.out.1).mono ?_
  rintro e w12 ⟨rfl, hb⟩
  have HF : Hid (Later w11 w12) := Lib.hid hb; replace HT := Lib.hid (HT.out.later hb); replace HRa := Lib.hid (HRa.out.later hb); replace HRb := Lib.hid (HRb.out.later hb); clear hb
  go_wp2_with fail
  refine pieceEnd_normal ⟨HF.out, ?_⟩
  clear HF
  refine wpGrow_cons ?_
  refine wpQuiet_nil ?_
  go_wp2_with fail
  refine (HL2.out _ HT.out.1).mono ?_
  rintro e w13 ⟨Ae, ne, ce, Be, me, ke, rfl, hle, hpe, -, -, hb⟩
  have HLe := Lib.hid hle; have HPe := Lib.hid hpe; clear hle hpe
  have HF : Hid (Later w12 w13) := Lib.hid hb; replace HT := Lib.hid (HT.out.later hb); replace HRa := Lib.hid (HRa.out.later hb); replace HRb := Lib.hid (HRb.out.later hb); clear hb
  go_wp2_with fail
  refine pieceEnd_normal ⟨HF.out, ?_⟩
  clear HF
  refine wpGrow_cons ?_
  refine wpQuiet_nil ?_
  go_wp2_with fail
  refine (HL3.out _ HT.out.1 _ _ _ _ _ _ HLe.out HPe.out).mono ?_
  rintro e w14 ⟨rfl, hb⟩
  have HF : Hid (Later w13 w14) := Lib.hid hb; replace HT := Lib.hid (HT.out.later hb); replace HRa := Lib.hid (HRa.out.later hb); replace HRb := Lib.hid (HRb.out.later hb); clear hb
  go_wp2_with fail
  refine pieceEnd_normal ⟨HF.out, ?_⟩
  clear HF
  clear HLe HPe
  refine wpGrow_cons ?_
  obtain ⟨hf0, hf1, hf2, hf3, hf4, hf5, hf6, hf7, hf8, hf9, hf10, hf11, hf12⟩ := stm_futs (F := Later) Later.refl (A := A) (n := n) (c := c) (B := B) (m := m) (k := k) (s := ⟨author, number, prev, time, kind, a, b, cc, list, pins, body, key, dig⟩) (W := w14) (fun w' h => h.block _ (by have := HT.out.2.2.2; omega)) HT.out.2.1
  obtain ⟨hg0, hg1, hg2, hg3, hg4, hg5, hg6, hg7, hg8, hg9, hg10, hg11, hg12⟩ := stm_futs (F := Later) Later.refl (A := A2) (n := n2) (c := c2) (B := B2) (m := m2) (k := k2) (s := ⟨y0, y1, y2, y3, y4, y5, y6, y7, y8, y9, y10, y11, y12⟩) (W := w14) (fun w' h => h.block _ (by have := HT.out.2.2.2; omega)) HT.out.2.2.1
  have hcv1 := fun x => conv_fut HRa.out HTE.out x
  have hcv2 := fun x => conv_fut HRb.out HTE.out x
  repeat (go_big_quiet_step (fail))
  refine wpQuiet_nil ?_
  clear hf0 hf1 hf2 hf3 hf4 hf5 hf6 hf7 hf8 hf9 hf10 hf11 hf12
  clear hg0 hg1 hg2 hg3 hg4 hg5 hg6 hg7 hg8 hg9 hg10 hg11 hg12
  clear hcv1 hcv2 HRa HRb
  go_wp2_with fail
  refine (HO1.out _ HT.out.1).mono ?_
  rintro e w15 ⟨rfl, hb⟩
  have HF : Hid (Later w14 w15) := Lib.hid hb; replace HT := Lib.hid (HT.out.later hb); clear hb
  go_wp2_with fail
  refine pieceEnd_normal ⟨HF.out, ?_⟩
  clear HF
  refine wpGrow_cons ?_
  refine wpQuiet_nil ?_
  go_wp2_with fail
  refine (HO2.out _ HT.out.1).mono ?_
  rintro e w16 ⟨rfl, hb⟩
  have HF : Hid (Later w15 w16) := Lib.hid hb; replace HT := Lib.hid (HT.out.later hb); clear hb
  go_wp2_with fail
  refine pieceEnd_normal ⟨HF.out, ?_⟩
  clear HF
  refine wpGrow_cons ?_
  obtain ⟨hf0, hf1, hf2, hf3, hf4, hf5, hf6, hf7, hf8, hf9, hf10, hf11, hf12⟩ := stm_futs (F := Later) Later.refl (A := A) (n := n) (c := c) (B := B) (m := m) (k := k) (s := ⟨author, number, prev, time, kind, a, b, cc, list, pins, body, key, dig⟩) (W := w16) (fun w' h => h.block _ (by have := HT.out.2.2.2; omega)) HT.out.2.1
  repeat (go_big_quiet_step (fail))
  refine wpQuiet_nil ?_
  clear hf0 hf1 hf2 hf3 hf4 hf5 hf6 hf7 hf8 hf9 hf10 hf11 hf12
  go_wp2_with fail
  refine (HO3.out _ HT.out.1).mono ?_
  rintro e w17 ⟨rfl, hb⟩
  have HF : Hid (Later w16 w17) := Lib.hid hb; replace HT := Lib.hid (HT.out.later hb); clear hb
  go_wp2_with fail
  refine pieceEnd_normal ⟨HF.out, ?_⟩
  clear HF
  refine wpGrow_nil ?_
  repeat (go_big_quiet_step (fail))
  refine wpQuiet_nil ?_
  go_wp2
  go_ret
  exact ⟨rfl, HT.out.1⟩
end Go.Proofs.YtnokhjpileamaaaDoor
/- The walk of trustflowlaw03.awake. -/
namespace Go.Proofs.YtnokhjpileamaaaDoor
open Go.RowKit
theorem vouch_same : sameS (sealOf vouch) zeroS = false := by
  have : ((sealOf vouch).author == zeroS.author) = false := rfl
  unfold sameS
  rw [this]; rfl
set_option maxRecDepth 100000 in
set_option maxHeartbeats 4000000 in
theorem awake_any (w : World) (hr : Rounds w) : Calls Tryd.prog 7 #[] w (SaysL (.bool true) w) := by
  have H1 : Hid (∀ w', Below w.heap.size w w' → Calls Tryd.prog 20 #[.agg #[.int .i64 2, .int .i64 0, .string ⟨#[]⟩, .int .i64 7, .int .i64 1, .int .i64 5, .int .i64 1, .int .i64 100, .slice none 0 0, .slice none 0 0, .string ⟨#[]⟩, .int .i64 0, .string ⟨#[]⟩]] w' (SaysL (stmV (sealOf vouch) none 0 0 none 0 0) w')) := Lib.hid fun w' h => seal_any vouch none 0 0 none 0 0 w' (Row.nilRow _ _) (Row.nilRow _ _) vouch_small (hr.later h)
  have H2 : Hid (∀ w', Below w.heap.size w w' → Calls Tryd.prog 23 #[stmV (sealOf vouch) none 0 0 none 0 0] w' (Enc2 w' 0 (wholeB (sealOf vouch)))) := Lib.hid fun w' h => by
    have := encode_any (sealOf vouch) none 0 0 none 0 0 w' (Row.nilRow _ _) (Row.nilRow _ _) vouch_sealed_small (hr.later h)
    unfold EncS at this
    rw [vouch_encE, vouch_encB] at this; exact this
  have H3 : Hid (∀ w', Below w.heap.size w w' → ∀ A n c, BRow w' A n c (wholeB (sealOf vouch)) → Calls Tryd.prog 24 #[.slice A n c] w' (DecR w' (sealOf vouch) 0)) := Lib.hid fun w' h A n c hb => by
    have := decode_any A n c (wholeB (sealOf vouch)) w' hb (by rw [← hb.len]; exact vouch_len) (hr.later h)
    rw [vouch_decS, vouch_decE] at this; exact this
  have H4 : Hid (∀ w', Below w.heap.size w w' → Calls Tryd.prog 25 #[stmV (sealOf vouch) none 0 0 none 0 0] w' (SaysL (.string (digS vouch)) w')) := Lib.hid fun w' h => digest_any (sealOf vouch) none 0 0 none 0 0 w' (Row.nilRow _ _) (Row.nilRow _ _) vouch_sealed_small (hr.later h)
  have H5 : Hid (∀ w', Below w.heap.size w w' → Calls Tryd.prog 21 #[stmV (sealOf vouch) none 0 0 none 0 0] w' (SaysL (.bool true) w')) := Lib.hid fun w' h => by
    have := sealed_any (sealOf vouch) none 0 0 none 0 0 w' (Row.nilRow _ _) (Row.nilRow _ _) vouch_sealed_small (hr.later h)
    rw [sealed_seal] at this; exact this
  have H6 : Hid (∀ w', Below w.heap.size w w' → Calls Tryd.prog 26 #[stmV (sealOf vouch) none 0 0 none 0 0] w' (SaysL (.int .i64 0) w')) := Lib.hid fun w' h => by
    have := check_any (sealOf vouch) none 0 0 none 0 0 w' (Row.nilRow _ _) (Row.nilRow _ _) (by omega) (by omega) (by decide)
    rw [vouch_check] at this; exact this
  have H7 : Hid (∀ w' A2 n2 c2 B2 m2 k2, IRow w' A2 n2 c2 [] → PRow w' B2 m2 k2 [] → Calls Tryd.prog 27 #[stmV (sealOf vouch) A2 n2 c2 B2 m2 k2, stmV (sealOf vouch) none 0 0 none 0 0] w' (SaysL (.bool true) w')) := Lib.hid fun w' A2 n2 c2 B2 m2 k2 h1 h2 => by
    have := same_any (sealOf vouch) A2 n2 c2 B2 m2 k2 (sealOf vouch) none 0 0 none 0 0 w' h1 h2 (Row.nilRow _ _) (Row.nilRow _ _) (by rw [← h1.len]; decide) (by rw [← h2.len]; decide)
    rw [sameS_self] at this; exact this
  have H8 : Hid (∀ w' A2 n2 c2 B2 m2 k2, IRow w' A2 n2 c2 [] → PRow w' B2 m2 k2 [] → Calls Tryd.prog 27 #[stmV (sealOf vouch) A2 n2 c2 B2 m2 k2, .agg #[.int .i64 0, .int .i64 0, .string ⟨#[]⟩, .int .i64 0, .int .i64 0, .int .i64 0, .int .i64 0, .int .i64 0, .slice none 0 0, .slice none 0 0, .string ⟨#[]⟩, .int .i64 0, .string ⟨#[]⟩]] w' (SaysL (.bool false) w')) := Lib.hid fun w' A2 n2 c2 B2 m2 k2 h1 h2 => by
    have := same_any (sealOf vouch) A2 n2 c2 B2 m2 k2 zeroS none 0 0 none 0 0 w' h1 h2 (Row.nilRow _ _) (Row.nilRow _ _) (by rw [← h1.len]; decide) (by rw [← h2.len]; decide)
    rw [vouch_same] at this; exact this
  have HSZ := Lib.hid (digS_size vouch)
  have eD : ∀ (A2 : Option Addr) (n2 c2 : Nat) (B2 : Option Addr) (m2 k2 : Nat), stmV (sealOf vouch) A2 n2 c2 B2 m2 k2 = .agg #[.int .i64 2, .int .i64 0, .string ⟨#[]⟩, .int .i64 7, .int .i64 1, .int .i64 5, .int .i64 1, .int .i64 100, .slice A2 n2 c2, .slice B2 m2 k2, .string ⟨#[]⟩, .int .i64 2, .string (digS vouch)] := fun _ _ _ _ _ _ => rfl
  have eL : (sealOf vouch).list = [] := rfl
  have eP : (sealOf vouch).pins = [] := rfl
  simp only [eD] at H1 H2 H4 H5 H6 H7 H8
  have H3' : Hid (∀ w', Below w.heap.size w w' → ∀ A n c, BRow w' A n c (wholeB (sealOf vouch)) → Calls Tryd.prog 24 #[.slice A n c] w' (fun e w'' => ∃ A2 n2 c2 B2 m2 k2, e = .returned (.tuple #[.agg #[.int .i64 2, .int .i64 0, .string ⟨#[]⟩, .int .i64 7, .int .i64 1, .int .i64 5, .int .i64 1, .int .i64 100, .slice A2 n2 c2, .slice B2 m2 k2, .string ⟨#[]⟩, .int .i64 2, .string (digS vouch)], .int .i64 0]) ∧ IRow w'' A2 n2 c2 [] ∧ PRow w'' B2 m2 k2 [] ∧ Below w'.heap.size w' w'')) := H3
  clear H3 eD eL eP hr
  generalize wholeB (sealOf vouch) = us at H2 H3'
  generalize digS vouch = D at H1 H2 H3' H4 H5 H6 H7 H8 HSZ
  go_enter Tryd.func7, Tryd.ntmps7
  go_wp2_with fail
  refine (H1.out _ (Below.refl _ _)).mono ?_
  rintro e w1 ⟨rfl, hb⟩
  have HB := Lib.hid (hb.trans ((one_new w1 (.cells #[.int .i64 2, .int .i64 0, .string ⟨#[]⟩, .int .i64 7, .int .i64 1, .int .i64 5, .int .i64 1, .int .i64 100, .slice none 0 0, .slice none 0 0, .string ⟨#[]⟩, .int .i64 2, .string D] 27)).mono hb.size))
  have HX := Lib.hid (heap_alloc_new w1 (.cells #[.int .i64 2, .int .i64 0, .string ⟨#[]⟩, .int .i64 7, .int .i64 1, .int .i64 5, .int .i64 1, .int .i64 100, .slice none 0 0, .slice none 0 0, .string ⟨#[]⟩, .int .i64 2, .string D] 27))
  have HZ : Hid (w1.heap.size < (w1.alloc (.cells #[.int .i64 2, .int .i64 0, .string ⟨#[]⟩, .int .i64 7, .int .i64 1, .int .i64 5, .int .i64 1, .int .i64 100, .slice none 0 0, .slice none 0 0, .string ⟨#[]⟩, .int .i64 2, .string D] 27)).heap.size) := Lib.hid (by simp)
  clear hb
  obtain ⟨hc0, hc1, hc2, hc3, hc4, hc5, hc6, hc7, hc8, hc9, hc10, hc11, hc12⟩ := stm_cells (A := none) (n := 0) (c := 0) (B := none) (m := 0) (k := 0) (s := ⟨2, 0, ⟨#[]⟩, 7, 1, 5, 1, 100, [], [], ⟨#[]⟩, 2, D⟩) HX.out
  go_wp2_with fail
  clear hc0 hc1 hc2 hc3 hc4 hc5 hc6 hc7 hc8 hc9 hc10 hc11 hc12
  refine (H2.out _ HB.out).mono ?_
  generalize w1.alloc (.cells #[.int .i64 2, .int .i64 0, .string ⟨#[]⟩, .int .i64 7, .int .i64 1, .int .i64 5, .int .i64 1, .int .i64 100, .slice none 0 0, .slice none 0 0, .string ⟨#[]⟩, .int .i64 2, .string D] 27) = y1 at HB HX HZ ⊢
  obtain ⟨g, hg⟩ : ∃ g, g = w1.heap.size := ⟨_, rfl⟩
  rw [← hg] at HX HZ ⊢
  clear hg
  rintro e w2 ⟨A1, n1, c1, rfl, hr, hb⟩
  replace HX := Lib.hid ((hb.block g HZ.out).trans HX.out); replace HZ := Lib.hid (Nat.lt_of_lt_of_le HZ.out hb.size); replace HB := Lib.hid (HB.out.trans (hb.mono HB.out.size))
  have HR := Lib.hid hr; clear hr hb
  go_wp2_with fail
  refine (H3'.out _ HB.out _ _ _ HR.out).mono ?_
  rintro e w3 ⟨A2, n2, c2, B2, m2, k2, rfl, hl, hp, hb⟩
  have hn := one_new w3 (.cells #[.int .i64 2, .int .i64 0, .string ⟨#[]⟩, .int .i64 7, .int .i64 1, .int .i64 5, .int .i64 1, .int .i64 100, .slice A2 n2 c2, .slice B2 m2 k2, .string ⟨#[]⟩, .int .i64 2, .string D] 27)
  have hb2 := hb.trans (hn.mono hb.size)
  replace HX := Lib.hid ((hb2.block g HZ.out).trans HX.out); replace HZ := Lib.hid (Nat.lt_of_lt_of_le HZ.out hb.size); replace HB := Lib.hid (HB.out.trans (hb2.mono HB.out.size))
  have HY := Lib.hid (heap_alloc_new w3 (.cells #[.int .i64 2, .int .i64 0, .string ⟨#[]⟩, .int .i64 7, .int .i64 1, .int .i64 5, .int .i64 1, .int .i64 100, .slice A2 n2 c2, .slice B2 m2 k2, .string ⟨#[]⟩, .int .i64 2, .string D] 27))
  have HL := Lib.hid (hl.later hn); have HP := Lib.hid (hp.later hn)
  have HZ2 : Hid (w3.heap.size < (w3.alloc (.cells #[.int .i64 2, .int .i64 0, .string ⟨#[]⟩, .int .i64 7, .int .i64 1, .int .i64 5, .int .i64 1, .int .i64 100, .slice A2 n2 c2, .slice B2 m2 k2, .string ⟨#[]⟩, .int .i64 2, .string D] 27)).heap.size) := Lib.hid (by simp)
  clear hl hp hb hb2 hn HR
  obtain ⟨hc0, hc1, hc2, hc3, hc4, hc5, hc6, hc7, hc8, hc9, hc10, hc11, hc12⟩ := stm_cells (A := none) (n := 0) (c := 0) (B := none) (m := 0) (k := 0) (s := ⟨2, 0, ⟨#[]⟩, 7, 1, 5, 1, 100, [], [], ⟨#[]⟩, 2, D⟩) HX.out
  go_wp2_with fail
  clear hc0 hc1 hc2 hc3 hc4 hc5 hc6 hc7 hc8 hc9 hc10 hc11 hc12
  refine (H4.out _ HB.out).mono ?_
  replace HZ : Hid (g < (w3.alloc (.cells #[.int .i64 2, .int .i64 0, .string ⟨#[]⟩, .int .i64 7, .int .i64 1, .int .i64 5, .int .i64 1, .int .i64 100, .slice A2 n2 c2, .slice B2 m2 k2, .string ⟨#[]⟩, .int .i64 2, .string D] 27)).heap.size) := Lib.hid (Nat.lt_trans HZ.out HZ2.out)
  generalize w3.alloc (.cells #[.int .i64 2, .int .i64 0, .string ⟨#[]⟩, .int .i64 7, .int .i64 1, .int .i64 5, .int .i64 1, .int .i64 100, .slice A2 n2 c2, .slice B2 m2 k2, .string ⟨#[]⟩, .int .i64 2, .string D] 27) = y3 at HB HX HY HL HP HZ HZ2 ⊢
  obtain ⟨g2, hg⟩ : ∃ g, g = w3.heap.size := ⟨_, rfl⟩
  rw [← hg] at HY HZ2 ⊢
  clear hg
  rintro e w4 ⟨rfl, hb⟩
  replace HX := Lib.hid ((hb.block g HZ.out).trans HX.out); replace HY := Lib.hid ((hb.block g2 HZ2.out).trans HY.out); replace HZ := Lib.hid (Nat.lt_of_lt_of_le HZ.out hb.size); replace HZ2 := Lib.hid (Nat.lt_of_lt_of_le HZ2.out hb.size); replace HB := Lib.hid (HB.out.trans (hb.mono HB.out.size)); replace HL := Lib.hid (HL.out.later hb); replace HP := Lib.hid (HP.out.later hb)
  clear hb
  have g32 : ((D.size : Int) == 32) = true := by rw [HSZ.out]; rfl
  obtain ⟨hc0, hc1, hc2, hc3, hc4, hc5, hc6, hc7, hc8, hc9, hc10, hc11, hc12⟩ := stm_cells (A := none) (n := 0) (c := 0) (B := none) (m := 0) (k := 0) (s := ⟨2, 0, ⟨#[]⟩, 7, 1, 5, 1, 100, [], [], ⟨#[]⟩, 2, D⟩) HX.out
  go_wp2_with fail
  clear hc0 hc1 hc2 hc3 hc4 hc5 hc6 hc7 hc8 hc9 hc10 hc11 hc12
  refine (H5.out _ HB.out).mono ?_
  rintro e w5 ⟨rfl, hb⟩
  replace HX := Lib.hid ((hb.block g HZ.out).trans HX.out); replace HY := Lib.hid ((hb.block g2 HZ2.out).trans HY.out); replace HZ := Lib.hid (Nat.lt_of_lt_of_le HZ.out hb.size); replace HZ2 := Lib.hid (Nat.lt_of_lt_of_le HZ2.out hb.size); replace HB := Lib.hid (HB.out.trans (hb.mono HB.out.size)); replace HL := Lib.hid (HL.out.later hb); replace HP := Lib.hid (HP.out.later hb)
  clear hb
  obtain ⟨hc0, hc1, hc2, hc3, hc4, hc5, hc6, hc7, hc8, hc9, hc10, hc11, hc12⟩ := stm_cells (A := none) (n := 0) (c := 0) (B := none) (m := 0) (k := 0) (s := ⟨2, 0, ⟨#[]⟩, 7, 1, 5, 1, 100, [], [], ⟨#[]⟩, 2, D⟩) HX.out
  go_wp2_with fail
  clear hc0 hc1 hc2 hc3 hc4 hc5 hc6 hc7 hc8 hc9 hc10 hc11 hc12
  refine (H6.out _ HB.out).mono ?_
  rintro e w6 ⟨rfl, hb⟩
  replace HX := Lib.hid ((hb.block g HZ.out).trans HX.out); replace HY := Lib.hid ((hb.block g2 HZ2.out).trans HY.out); replace HZ := Lib.hid (Nat.lt_of_lt_of_le HZ.out hb.size); replace HZ2 := Lib.hid (Nat.lt_of_lt_of_le HZ2.out hb.size); replace HB := Lib.hid (HB.out.trans (hb.mono HB.out.size)); replace HL := Lib.hid (HL.out.later hb); replace HP := Lib.hid (HP.out.later hb)
  clear hb
  obtain ⟨hc0, hc1, hc2, hc3, hc4, hc5, hc6, hc7, hc8, hc9, hc10, hc11, hc12⟩ := stm_cells (A := none) (n := 0) (c := 0) (B := none) (m := 0) (k := 0) (s := ⟨2, 0, ⟨#[]⟩, 7, 1, 5, 1, 100, [], [], ⟨#[]⟩, 2, D⟩) HX.out
  obtain ⟨hd0, hd1, hd2, hd3, hd4, hd5, hd6, hd7, hd8, hd9, hd10, hd11, hd12⟩ := stm_cells (A := A2) (n := n2) (c := c2) (B := B2) (m := m2) (k := k2) (s := ⟨2, 0, ⟨#[]⟩, 7, 1, 5, 1, 100, [], [], ⟨#[]⟩, 2, D⟩) HY.out
  go_wp2_with fail
  clear hc0 hc1 hc2 hc3 hc4 hc5 hc6 hc7 hc8 hc9 hc10 hc11 hc12
  clear hd0 hd1 hd2 hd3 hd4 hd5 hd6 hd7 hd8 hd9 hd10 hd11 hd12
  refine (H7.out _ _ _ _ _ _ _ HL.out HP.out).mono ?_
  rintro e w7 ⟨rfl, hb⟩
  replace HX := Lib.hid ((hb.block g HZ.out).trans HX.out); replace HY := Lib.hid ((hb.block g2 HZ2.out).trans HY.out); replace HZ := Lib.hid (Nat.lt_of_lt_of_le HZ.out hb.size); replace HZ2 := Lib.hid (Nat.lt_of_lt_of_le HZ2.out hb.size); replace HB := Lib.hid (HB.out.trans (hb.mono HB.out.size)); replace HL := Lib.hid (HL.out.later hb); replace HP := Lib.hid (HP.out.later hb)
  clear hb
  obtain ⟨hd0, hd1, hd2, hd3, hd4, hd5, hd6, hd7, hd8, hd9, hd10, hd11, hd12⟩ := stm_cells (A := A2) (n := n2) (c := c2) (B := B2) (m := m2) (k := k2) (s := ⟨2, 0, ⟨#[]⟩, 7, 1, 5, 1, 100, [], [], ⟨#[]⟩, 2, D⟩) HY.out
  go_wp2_with fail
  clear hd0 hd1 hd2 hd3 hd4 hd5 hd6 hd7 hd8 hd9 hd10 hd11 hd12
  refine (H8.out _ _ _ _ _ _ _ HL.out HP.out).mono ?_
  rintro e w8 ⟨rfl, hb⟩
  replace HX := Lib.hid ((hb.block g HZ.out).trans HX.out); replace HY := Lib.hid ((hb.block g2 HZ2.out).trans HY.out); replace HZ := Lib.hid (Nat.lt_of_lt_of_le HZ.out hb.size); replace HZ2 := Lib.hid (Nat.lt_of_lt_of_le HZ2.out hb.size); replace HB := Lib.hid (HB.out.trans (hb.mono HB.out.size)); replace HL := Lib.hid (HL.out.later hb); replace HP := Lib.hid (HP.out.later hb)
  clear hb
  go_wp2
  go_ret
  exact ⟨rfl, HB.out⟩
end Go.Proofs.YtnokhjpileamaaaDoor
