import Derived.Test.YtnmpbjgccbnomaaGreatPackAB
import Derived.Test.YtnmpbjgccbnomaaGreatPackAC
import Derived.Test.YtnmpbjgccbnomaaGreatPackAA
import Derived.WalkSmall
import Derived.Defers
import Derived.Recover
import Derived.Laws.IdiomStrings
import Derived.Great.BuildSlice
/- The walks of trustflowref02: Int, Text, Ints, rest. -/
namespace Go.Proofs.YtnmpbjgccbnomaaGreat
open Go.RowKit
set_option maxHeartbeats 400000 in
theorem refInt_own (A : Option Addr) (n c : Nat) (us : List UInt8) (x : Int) (w : World) (hr : BRow w A n c us) (hm : n ≤ 3000000) :
    Calls Tryz.prog 113 #[.slice A n c, .int .i64 x] w fun e w' => ∃ v, e = .returned v ∧ BOwn w' w.heap.size v (us ++ be8 x) ∧ Below w.heap.size w w' := by
  have HR := Lib.hid hr; have HL := Lib.hid hr.len; clear hr
  go_enter Tryz.func113, Tryz.ntmps113
  go_wp2_with (at_builtin; go_must (refine wpList_app w rfl (.const (.slice none 0 0)) (.tmp 7) 119 119 5 rfl w.heap.size Tryz.underlying119 u8_info rfl _ 0 [] (World.ownsRow_nil w _ _ _) rfl (.slice A n c) n (bytesV us) (Row.src HR.out Tryz.underlying119 (bytesV_one us)) rfl (by unfold maxLen; omega) (by omega) (Nat.le_refl _) ?_); intro v3 w3 ho3 hb3; have HO3 := Lib.hid ho3; have HB3 := Lib.hid hb3; clear ho3 hb3)
  go_loopw [5, 6] (fun v i wr => ∃ k : Nat, k ≤ 8 ∧ i = .int .i64 (7 - (k : Int)) ∧ Hid (BOwn wr w.heap.size v (us ++ be8To x k) ∧ Below w.heap.size w wr)) (fun _ i _ => (intOf i + 1).toNat)
  case atStart => exact ⟨0, by omega, by go_num, Lib.hid ⟨by have h := HO3.out; rw [Nat.zero_add, List.nil_append] at h; unfold BOwn; simp only [be8To, List.range_zero, List.map_nil, List.append_nil]; rw [HL.out]; exact h, HB3.out⟩⟩
  case round =>
    obtain ⟨k, hk, rfl, HI⟩ := hrel
    have hlen : (us ++ be8To x k).length + 1 ≤ 1000000000 := by rw [List.length_append, be8To_len, HL.out]; omega
    have HLEN := Lib.hid hlen; clear hlen
    by_cases hlt : k < 8
    · have hsh := be8At_eq x k
      have h0 : (0 : Int) ≤ 7 - (k : Int) := by omega
      have h8 : 8 * (7 - (k : Int)) = ((56 - 8 * k : Nat) : Int) := by omega
      have hBr : w.heap.size ≤ wr.heap.size := HI.out.2.size
      go_wp2_with (at_builtin; go_must (refine wpList_app_new wr rfl (.tmp 13) (.tmp 20) 119 5 rfl w.heap.size Tryz.underlying119 u8_info rfl _ _ _ HI.out.1 rfl 1 #[.int .u8 (w8 (be8At x k))] rfl (by simp [Value.oneCell']) rfl rfl (by have := HLEN.out; unfold maxLen; omega) (by have := HLEN.out; omega) hBr ?_); intro v' w' hown' hb')
      exact ⟨⟨k + 1, by omega, by go_num, by rw [be8To_succ, ← List.append_assoc]; exact ⟨by unfold BOwn; rw [bytesV_app, List.length_append]; exact hown', HI.out.2.trans hb'⟩⟩, by simp [intOf]; omega⟩
    · go_wp2
      go_ret
      have hk8 : k = 8 := by omega
      subst hk8
      exact ⟨_, rfl, HI.out⟩
theorem refInt_any (A : Option Addr) (n c : Nat) (us : List UInt8) (x : Int) (w : World) (hr : BRow w A n c us) (hm : n ≤ 3000000) :
    Calls Tryz.prog 113 #[.slice A n c, .int .i64 x] w (GivesB w (us ++ be8 x)) :=
  (refInt_own A n c us x w hr hm).mono fun _ _ ⟨_, he, ho, hb⟩ => by subst he; exact ho.gives hb
set_option maxHeartbeats 400000 in
theorem refText_any (A : Option Addr) (n c : Nat) (us : List UInt8) (s : ByteArray) (w : World) (hr : BRow w A n c us) (hm : n ≤ 3000000) (hs : s.size ≤ 3000000) :
    Calls Tryz.prog 112 #[.slice A n c, .string s] w (GivesB w (us ++ textB s.data.toList)) := by
  have HR := Lib.hid hr; have HL := Lib.hid hr.len; clear hr
  go_enter Tryz.func112, Tryz.ntmps112
  go_wp2_with fail
  refine (refInt_own A n c us (s.size : Int) w HR.out hm).mono ?_
  rintro e w2 ⟨v2, rfl, ho2, hb2⟩
  have HO2 := Lib.hid ho2; have HB2 := Lib.hid hb2; clear ho2 hb2
  have hlen : (us ++ be8 (s.size : Int)).length = n + 8 := by rw [List.length_append, be8_len, HL.out]
  have HLEN := Lib.hid hlen; clear hlen
  go_wp2_with (at_builtin; go_must (refine wpList_app w2 rfl (.tmp 8) (.tmp 9) 119 9 5 rfl w.heap.size Tryz.underlying119 u8_info rfl v2 _ _ HO2.out rfl (.string s) s.size (byteCells s) (Src.ofString w2 Tryz.underlying9 s) rfl (by rw [HLEN.out]; unfold maxLen; omega) (by rw [HLEN.out]; omega) HB2.out.size ?_); intro v3 w3 ho3 hb3; have HO3 := Lib.hid ho3; have HB3 := Lib.hid (HB2.out.trans hb3); clear ho3 hb3)
  go_ret
  refine BOwn.gives ?_ HB3.out
  have h := HO3.out
  unfold BOwn textB
  rw [← List.append_assoc, bytesV_app, List.length_append, show (s.data.toList.length : Int) = (s.size : Int) from by simp]
  rw [show s.data.toList.length = s.size from by simp]
  exact h
set_option maxHeartbeats 400000 in
theorem refInts_any (A : Option Addr) (n c : Nat) (us : List UInt8) (B : Option Addr) (m k : Nat) (l : List Int) (w : World) (hr : BRow w A n c us) (hl : IRow w B m k l) (hm : n ≤ 100000) (hs : m ≤ 90000) :
    Calls Tryz.prog 114 #[.slice A n c, .slice B m k] w (GivesB w (us ++ intsB l)) := by
  have HR := Lib.hid hr; have HL := Lib.hid hr.len; have HI := Lib.hid hl; have HLL := Lib.hid hl.len; clear hr hl
  go_enter Tryz.func114, Tryz.ntmps114
  go_wp2_with fail
  refine (refInt_any A n c us (m : Int) w HR.out (by omega)).mono ?_
  rintro e w2 ⟨A2, m2, c2, rfl, hm2, hr2, hn2, hb2⟩
  have HN2 := Lib.hid hn2; have HM2 := Lib.hid hm2; have HR2 := Lib.hid hr2; have HB2 := Lib.hid hb2; clear hm2 hr2 hb2 hn2
  go_wp2_with fail
  go_loopw [5, 6] (fun v i wr => ∃ j : Nat, j ≤ m ∧ i = .int .i64 j ∧ ∃ A' n' c', v = .slice A' n' c' ∧ Hid (n' = n + 8 + 8 * j ∧ BRow wr A' n' c' (us ++ be8 (m : Int) ++ listB (l.take j)) ∧ Below w.heap.size w wr ∧ New w wr A')) (fun _ i _ => m - (intOf i).toNat)
  case atStart => exact ⟨0, Nat.zero_le _, rfl, A2, m2, c2, rfl, Lib.hid ⟨by have := HM2.out; rw [List.length_append, be8_len, HL.out] at this; omega, by simpa [listB] using HR2.out, HB2.out, HN2.out⟩⟩
  case round =>
    obtain ⟨j, hj, rfl, A', n', c', rfl, HQ⟩ := hrel
    by_cases hlt : j < m
    · obtain ⟨b, off, hA, hcell⟩ := (Row.later HI.out HQ.out.2.2.1).form (by omega)
      have hc := hcell j (by omega)
      rw [intsV_get _ _ (by rw [HLL.out]; exact hlt)] at hc
      unfold iv at hc
      subst hA
      clear hcell
      have hn' : n' ≤ 3000000 := by have := HQ.out.1; omega
      go_wp2_with fail
      refine (refInt_any A' n' c' _ (l.getD j 0) wr HQ.out.2.1 hn').mono ?_
      rintro e w3 ⟨A3, m3, c3, rfl, hm3, hr3, hn3, hb3⟩
      have HN3 := Lib.hid (hn3.from HQ.out.2.2.1.size); have HM3 := Lib.hid hm3; have HR3 := Lib.hid hr3; have HB3 := Lib.hid (HQ.out.2.2.1.trans (hb3.mono HQ.out.2.2.1.size)); clear hm3 hr3 hb3 hn3
      go_wp2
      exact ⟨⟨j + 1, by omega, by go_num, A3, m3, c3, rfl, Lib.hid ⟨by rw [HM3.out, List.length_append, be8_len, BRow.len HQ.out.2.1, HQ.out.1]; omega, by rw [take_snoc' l j 0 (by rw [HLL.out]; exact hlt), listB_snoc, ← List.append_assoc]; exact HR3.out, HB3.out, HN3.out⟩⟩, by simp [intOf]; omega⟩
    · have HK : Hid (j = m) := by unfold Hid; omega
      go_wp2
      go_ret
      have h := HQ.out.2.1
      rw [HK.out, List.take_of_length_le (by rw [HLL.out]; exact Nat.le_refl _)] at h
      have hlen := h.len
      refine ⟨A', n', c', rfl, ?_, ?_, HQ.out.2.2.2, HQ.out.2.2.1⟩
      · unfold intsB; rw [HLL.out, ← List.append_assoc, hlen]
      · unfold intsB; rw [HLL.out, ← List.append_assoc]; exact h
end Go.Proofs.YtnmpbjgccbnomaaGreat
/- The walks of trustflowref02: TakeInt, TakeText, TakeInts. -/
namespace Go.Proofs.YtnmpbjgccbnomaaGreat
open Go.RowKit
end Go.Proofs.YtnmpbjgccbnomaaGreat
/- What is taken from any bytes, by package wire and by the reference alike. -/
namespace Go.Proofs.YtnmpbjgccbnomaaGreat
open Go.RowKit
open Classical in
open Classical in
section
variable (A : Option Addr) (n c : Nat) (us : List UInt8) (most : Int) (w : World)
end
theorem conv_at {w : World} {A : Option Addr} {m c : Nat} {us : List UInt8} (h : BRow w A m c us) {w' : World} (hl : Below w.heap.size w w') {t : ByteArray} (ht : t = strOf us) :
    (convert 119 9 (.slice A m c)).run Tryz.prog w' = .ok (.string t) w' := by
  subst ht
  exact run_conv_row (Row.later h hl) Tryz.underlying119 Tryz.underlying5 Tryz.underlying9
end Go.Proofs.YtnmpbjgccbnomaaGreat
/- The walk of fork.Encode. -/
namespace Go.Proofs.YtnmpbjgccbnomaaGreat
open Go.RowKit
end Go.Proofs.YtnmpbjgccbnomaaGreat
/- What package wire takes from bytes lies where the bytes lie. -/
namespace Go.Proofs.YtnmpbjgccbnomaaGreat
open Go.RowKit
/-- An address in the block of another one. -/
def Sub (A' A : Option Addr) : Prop := ∀ ad', A' = some ad' → ∃ ad, A = some ad ∧ ad'.block = ad.block
theorem Sub.refl (A : Option Addr) : Sub A A := fun ad h => ⟨ad, h, rfl⟩
theorem Sub.none (A : Option Addr) : Sub none A := fun _ h => by cases h
theorem Sub.trans {A B C : Option Addr} (h : Sub A B) (k : Sub B C) : Sub A C := fun ad hA => by
  obtain ⟨b, hb, e⟩ := h ad hA
  obtain ⟨c, hc, e2⟩ := k b hb
  exact ⟨c, hc, e.trans e2⟩
section
variable (A : Option Addr) (n c : Nat) (us : List UInt8) (most : Int) (w : World)
end
end Go.Proofs.YtnmpbjgccbnomaaGreat
/- The walks of the reader of package statement: require, number, text, list. -/
namespace Go.Proofs.YtnmpbjgccbnomaaGreat
open Go.RowKit
end Go.Proofs.YtnmpbjgccbnomaaGreat
/- The walk of the reader's pins. -/
namespace Go.Proofs.YtnmpbjgccbnomaaGreat
open Go.RowKit
end Go.Proofs.YtnmpbjgccbnomaaGreat
/- What is read of a statement; the walk of the reader's statement. -/
namespace Go.Proofs.YtnmpbjgccbnomaaGreat
open Go.RowKit
theorem but_up {R p : Nat} {w w' : World} (h : But R w w') {A : Option Addr} {n c sz : Nat} {cs : List Value} (hr : Row w A n c sz cs) (hp : ∀ ad, A = some ad → p < ad.block) (hR : R ≤ p) : Row w' A n c sz cs :=
  Row.but hr h fun ad hA _ => by have := hp ad hA; omega
theorem set_up {p : Nat} {w : World} {A : Option Addr} {n c sz : Nat} {cs : List Value} (hr : Row w A n c sz cs) (hp : ∀ ad, A = some ad → p < ad.block) (o : Nat) (v : Value) : Row (w.setCell ⟨p, o, none⟩ v) A n c sz cs :=
  Row.keep hr fun ad hA _ _ => Below.heap_setCell _ _ _ _ (by have := hp ad hA; show ad.block ≠ p; omega)
end Go.Proofs.YtnmpbjgccbnomaaGreat
/- The deferred function of statement.read, which recovers. -/
namespace Go.Proofs.YtnmpbjgccbnomaaGreat
open Go.RowKit
end Go.Proofs.YtnmpbjgccbnomaaGreat
/- The walk of statement.read. -/
namespace Go.Proofs.YtnmpbjgccbnomaaGreat
open Go.RowKit
def zeroS : Stm := ⟨0, 0, ⟨#[]⟩, 0, 0, 0, 0, 0, [], [], ⟨#[]⟩, 0, ⟨#[]⟩⟩
end Go.Proofs.YtnmpbjgccbnomaaGreat
/- The walk of statement.Decode. -/
namespace Go.Proofs.YtnmpbjgccbnomaaGreat
open Go.RowKit
end Go.Proofs.YtnmpbjgccbnomaaGreat
/- What bytes say of evidence: plain facts; a string as bytes. -/
namespace Go.Proofs.YtnmpbjgccbnomaaGreat
open Go.RowKit
/-- What Decode gives. -/
def DecF (w : World) (s t : Stm) (E : Int) (e : Ending) (w' : World) : Prop :=
  ∃ A n c B m k A2 n2 c2 B2 m2 k2, e = .returned (.tuple #[forkV s A n c B m k t A2 n2 c2 B2 m2 k2, .int .i64 E]) ∧ IRow w' A n c s.list ∧ PRow w' B m k s.pins ∧ IRow w' A2 n2 c2 t.list ∧ PRow w' B2 m2 k2 t.pins ∧ Below w.heap.size w w'
theorem DecF.zero {w w' : World} (hb : Below w.heap.size w w') : DecF w zeroS zeroS 1 (.returned (.tuple #[.agg #[.int .i64 0, .int .i64 0, .string ⟨#[]⟩, .int .i64 0, .int .i64 0, .int .i64 0, .int .i64 0, .int .i64 0, .slice none 0 0, .slice none 0 0, .string ⟨#[]⟩, .int .i64 0, .string ⟨#[]⟩, .int .i64 0, .int .i64 0, .string ⟨#[]⟩, .int .i64 0, .int .i64 0, .int .i64 0, .int .i64 0, .int .i64 0, .slice none 0 0, .slice none 0 0, .string ⟨#[]⟩, .int .i64 0, .string ⟨#[]⟩], .int .i64 1])) w' :=
  ⟨none, 0, 0, none, 0, 0, none, 0, 0, none, 0, 0, rfl, Row.nilRow _ _, Row.nilRow _ _, Row.nilRow _ _, Row.nilRow _ _, hb⟩
end Go.Proofs.YtnmpbjgccbnomaaGreat
/- The walk of fork.Decode. -/
namespace Go.Proofs.YtnmpbjgccbnomaaGreat
open Go.RowKit
end Go.Proofs.YtnmpbjgccbnomaaGreat
/- The walk of the reference's Bytes. -/
namespace Go.Proofs.YtnmpbjgccbnomaaGreat
open Go.RowKit
set_option maxRecDepth 100000 in
set_option maxHeartbeats 400000 in
theorem refBytes_any (s : Stm) (A : Option Addr) (n c : Nat) (B : Option Addr) (m k : Nat) (w : World) (hl : IRow w A n c s.list) (hp : PRow w B m k s.pins) (hs : Small s) :
    Calls Tryz.prog 93 #[stmV s A n c B m k] w (GivesB w (bodyB s)) := by
  have HL := Lib.hid hl; have HP := Lib.hid hp; have HN := Lib.hid hl.len; have HM := Lib.hid hp.len; have HSM := Lib.hid hs
  have hn : n ≤ 1000 := by rw [← hl.len]; exact hs.list
  have hm : m ≤ 1000 := by rw [← hp.len]; exact hs.pins
  clear hl hp hs
  obtain ⟨author, number, prev, time, kind, a, b, cc, list, pins, body, key, dig⟩ := s
  unfold stmV
  simp only at HL HP HN HM
  have hprev := HSM.out.prev; have hbody := HSM.out.body
  simp only at hprev hbody
  have HG : Hid (bodyB ⟨author, number, prev, time, kind, a, b, cc, list, pins, body, key, dig⟩ = listB [author, number] ++ textB prev.data.toList ++ listB [time, kind, a, b, cc] ++ intsB list ++ listB [(m : Int)] ++ pinsBs pins ++ textB body.data.toList) := by unfold Hid bodyB; rw [HM.out]
  generalize bodyB _ = R at HG ⊢
  obtain ⟨G, hG⟩ : ∃ G, G = w.heap.size + 1 := ⟨_, rfl⟩
  have HC0 := Lib.hid (heap_alloc_new w (.cells #[.int .i64 author, .int .i64 number, .string prev, .int .i64 time, .int .i64 kind, .int .i64 a, .int .i64 b, .int .i64 cc, .slice A n c, .slice B m k, .string body, .int .i64 key, .string dig] 48))
  have HB0 := Lib.hid (one_new w (.cells #[.int .i64 author, .int .i64 number, .string prev, .int .i64 time, .int .i64 kind, .int .i64 a, .int .i64 b, .int .i64 cc, .slice A n c, .slice B m k, .string body, .int .i64 key, .string dig] 48))
  have HS0 : Hid ((w.alloc (.cells #[.int .i64 author, .int .i64 number, .string prev, .int .i64 time, .int .i64 kind, .int .i64 a, .int .i64 b, .int .i64 cc, .slice A n c, .slice B m k, .string body, .int .i64 key, .string dig] 48)).heap.size = G) := by unfold Hid; rw [hG]; simp
  have HGG := Lib.hid hG; clear hG
  go_enter Tryz.func93, Tryz.ntmps93
  go_wp2_with fail
  refine wp_region_grow (by kernel_rfl) Later Later.refl (fun _ _ _ => Later.trans) [9] [([0, 1, 3, 4, 6, 7], 2), ([], 5), ([], 8)] (by kernel_rfl) (by kernel_rfl) (by kernel_rfl) ?_
  simp only [List.map_cons, List.map_nil, pick, List.getD_cons_zero, List.getD_cons_succ]
  have HB1 := Lib.hid (HB0.out.drew); have HC1 : Hid ((w.alloc (.cells #[.int .i64 author, .int .i64 number, .string prev, .int .i64 time, .int .i64 kind, .int .i64 a, .int .i64 b, .int .i64 cc, .slice A n c, .slice B m k, .string body, .int .i64 key, .string dig] 48)).drew.heap[w.heap.size]? = _) := HC0; have HS1 : Hid ((w.alloc (.cells #[.int .i64 author, .int .i64 number, .string prev, .int .i64 time, .int .i64 kind, .int .i64 a, .int .i64 b, .int .i64 cc, .slice A n c, .slice B m k, .string body, .int .i64 key, .string dig] 48)).drew.heap.size = G) := HS0
  clear HB0 HC0 HS0
  generalize (w.alloc (.cells #[.int .i64 author, .int .i64 number, .string prev, .int .i64 time, .int .i64 kind, .int .i64 a, .int .i64 b, .int .i64 cc, .slice A n c, .slice B m k, .string body, .int .i64 key, .string dig] 48)).drew = w1 at HB1 HC1 HS1 ⊢
  have HW1 := Lib.hid (Below.refl G w1); have HZ1 : Hid (G ≤ w1.heap.size) := Lib.hid (by rw [HS1.out]; exact Nat.le_refl _)
  obtain ⟨hf0, hf1, hf2, hf3, hf4, hf5, hf6, hf7, hf8, hf9, hf10, hf11, hf12⟩ := stm_futs (F := Later) Later.refl (s := ⟨author, number, prev, time, kind, a, b, cc, list, pins, body, key, dig⟩) (fun w' h => h.block _ (by rw [HS1.out, HGG.out]; omega)) HC1.out
  refine wpGrow_cons ?_
  repeat (go_big_quiet_step (fail))
  refine wpQuiet_nil ?_
  clear hf0 hf1 hf2 hf3 hf4 hf5 hf6 hf7 hf8 hf9 hf10 hf11 hf12
  obtain ⟨A1, hA1⟩ : ∃ A1 : Option Addr, A1 = none := ⟨_, rfl⟩
  obtain ⟨c1, hc1⟩ : ∃ c1 : Nat, c1 = 0 := ⟨_, rfl⟩
  obtain ⟨U1, hU1⟩ : ∃ U1 : List UInt8, U1 = [] := ⟨_, rfl⟩
  obtain ⟨m1, hm1e⟩ : ∃ m1 : Nat, m1 = 0 := ⟨_, rfl⟩
  have HR1 : Hid (BRow w1 A1 m1 c1 U1) := by subst hA1; subst hc1; subst hU1; subst hm1e; exact Lib.hid (Row.nilRow _ _)
  have HU1 : Hid (U1.length = m1) := by subst hU1; subst hm1e; rfl
  have HE1 := Lib.hid hU1
  clear hU1
  go_wp2_with fail
  rw [show (Value.slice none 0 0) = Value.slice A1 m1 c1 by rw [hA1, hc1, hm1e]]
  have hm1 : m1 ≤ 0 := by omega
  clear hA1 hc1 hm1e
  refine (refInt_any A1 _ c1 U1 author w1 HR1.out (by omega)).mono ?_
  rintro e w2 ⟨A2, m2, c2, rfl, hm0, hr, hnew, hb⟩
  obtain ⟨U2, hU⟩ : ∃ U, U = U1 ++ be8 author := ⟨_, rfl⟩
  rw [← hU] at hm0 hr
  have HQ2 := Lib.hid hU
  have hm2 : m2 ≤ m1 + 8 := by rw [hm0, hU, List.length_append, HU1.out, be8_len]; omega
  have HU2 : Hid (U2.length = m2) := Lib.hid hm0.symm
  have HR2 := Lib.hid hr; have HF : Hid (Later w1 w2) := Lib.hid hb; have HW2 := Lib.hid (HW1.out.trans (hb.mono HZ1.out)); have HZ2 : Hid (G ≤ w2.heap.size) := Lib.hid (Nat.le_trans HZ1.out hb.size)
  clear hm0 hr hU hb HR1 HU1
  go_wp2_with fail
  refine pieceEnd_normal ⟨HF.out, ?_⟩
  clear HF
  refine wpGrow_cons ?_
  refine wpQuiet_nil ?_
  go_wp2_with fail
  refine (refInt_any A2 _ c2 U2 number w2 HR2.out (by omega)).mono ?_
  rintro e w3 ⟨A3, m3, c3, rfl, hm0, hr, hnew, hb⟩
  obtain ⟨U3, hU⟩ : ∃ U, U = U2 ++ be8 number := ⟨_, rfl⟩
  rw [← hU] at hm0 hr
  have HQ3 := Lib.hid hU
  have hm3 : m3 ≤ m2 + 8 := by rw [hm0, hU, List.length_append, HU2.out, be8_len]; omega
  have HU3 : Hid (U3.length = m3) := Lib.hid hm0.symm
  have HR3 := Lib.hid hr; have HF : Hid (Later w2 w3) := Lib.hid hb; have HW3 := Lib.hid (HW2.out.trans (hb.mono HZ2.out)); have HZ3 : Hid (G ≤ w3.heap.size) := Lib.hid (Nat.le_trans HZ2.out hb.size)
  clear hm0 hr hU hb HR2 HU2
  go_wp2_with fail
  refine pieceEnd_normal ⟨HF.out, ?_⟩
  clear HF
  refine wpGrow_cons ?_
  refine wpQuiet_nil ?_
  go_wp2_with fail
  refine (refText_any A3 _ c3 U3 prev w3 HR3.out (by omega) (by omega)).mono ?_
  rintro e w4 ⟨A4, m4, c4, rfl, hm0, hr, hnew, hb⟩
  obtain ⟨U4, hU⟩ : ∃ U, U = U3 ++ textB prev.data.toList := ⟨_, rfl⟩
  rw [← hU] at hm0 hr
  have HQ4 := Lib.hid hU
  have hm4 : m4 ≤ m3 + (8 + prev.size) := by rw [hm0, hU, List.length_append, HU3.out, textS_len]; omega
  have HU4 : Hid (U4.length = m4) := Lib.hid hm0.symm
  have HR4 := Lib.hid hr; have HF : Hid (Later w3 w4) := Lib.hid hb; have HW4 := Lib.hid (HW3.out.trans (hb.mono HZ3.out)); have HZ4 : Hid (G ≤ w4.heap.size) := Lib.hid (Nat.le_trans HZ3.out hb.size)
  clear hm0 hr hU hb HR3 HU3
  go_wp2_with fail
  refine pieceEnd_normal ⟨HF.out, ?_⟩
  clear HF
  refine wpGrow_nil ?_
  repeat (go_big_quiet_step (fail))
  refine wpQuiet_nil ?_
  have HH : Hid (U4 = listB [author, number] ++ textB prev.data.toList) := by unfold Hid; rw [HQ4.out, HQ3.out, HQ2.out, HE1.out]; simp [listB]
  have HG1 : Hid (R = U4 ++ listB [time, kind, a, b, cc] ++ intsB list ++ listB [(m : Int)] ++ pinsBs pins ++ textB body.data.toList) := by unfold Hid; rw [HG.out, HH.out]
  clear HG HH HQ4 HQ3 HQ2 HE1 HW1 HZ1 HW2 HZ2 HW3 HZ3
  have HC : Hid (w4.heap[w.heap.size]? = w1.heap[w.heap.size]?) := Lib.hid (HW4.out.block _ (by rw [HGG.out]; omega))
  obtain ⟨hc0, hc1, hc2, hc3, hc4, hc5, hc6, hc7, hc8, hc9, hc10, hc11, hc12⟩ := stm_cells (s := ⟨author, number, prev, time, kind, a, b, cc, list, pins, body, key, dig⟩) (HC.out.trans HC1.out)
  have HX5 := Lib.hid (nums_row (w := w4) [time, kind, a, b, cc] #[.int .i64 time, .int .i64 kind, .int .i64 a, .int .i64 b, .int .i64 cc] 3 (0, 0) rfl 5 rfl)
  have HN5 := Lib.hid (one_new w4 (.cells #[.int .i64 time, .int .i64 kind, .int .i64 a, .int .i64 b, .int .i64 cc] 3))
  go_wp2_with fail
  clear hc0 hc1 hc2 hc3 hc4 hc5 hc6 hc7 hc8 hc9 hc10 hc11 hc12 HC
  have HR5 := Lib.hid (HR4.out.later HN5.out); have HW5 := Lib.hid (HW4.out.trans (HN5.out.mono HZ4.out))
  clear HR4
  generalize w4.alloc (.cells #[.int .i64 time, .int .i64 kind, .int .i64 a, .int .i64 b, .int .i64 cc] 3) = w5 at HX5 HN5 HR5 HW5 ⊢
  have HZ5 : Hid (G ≤ w5.heap.size) := Lib.hid (Nat.le_trans HZ4.out HN5.out.size)
  obtain ⟨L5, hL5⟩ : ∃ L, L = [time, kind, a, b, cc] := ⟨_, rfl⟩
  rw [← hL5] at HX5 HG1
  have HL5 : Hid (L5.length = 5) := by rw [hL5]; rfl
  clear hL5
  go_loopw [3, 29] (fun v i wr => ∃ j : Nat, j ≤ 5 ∧ i = .int .i64 j ∧ ∃ A5 m5 c5, v = .slice A5 m5 c5 ∧ m5 ≤ m4 + 40 ∧ Hid (BRow wr A5 m5 c5 (U4 ++ listB (L5.take j)) ∧ Below G w1 wr ∧ Below w5.heap.size w5 wr)) (fun _ i _ => 5 - (intOf i).toNat)
  case atStart => exact ⟨0, Nat.zero_le _, rfl, _, _, _, rfl, by omega, Lib.hid ⟨by simpa [listB] using HR5.out, HW5.out, Below.refl _ _⟩⟩
  case round =>
    obtain ⟨j, hj, rfl, A5, m5, c5, rfl, hm5, HQ⟩ := hrel
    have HZr : Hid (G ≤ wr.heap.size) := Lib.hid (by have := HQ.out.2.1.size; rw [HS1.out] at this; exact this)
    by_cases hlt : j < 5
    · obtain ⟨ab, off, hA, hc0⟩ := (HX5.out.later HQ.out.2.2).cell j hlt
      have HT : Hid (listB (L5.take (j + 1)) = listB (L5.take j) ++ be8 (L5.getD j 0)) := by unfold Hid; rw [take_snoc' L5 j 0 (by rw [HL5.out]; exact hlt), listB_snoc]
      have HLT : Hid ((U4 ++ listB (L5.take j)).length = m4 + 8 * j) := by unfold Hid; rw [List.length_append, HU4.out, listB_len, List.length_take, HL5.out]; omega
      generalize L5.getD j 0 = x at hc0 HT
      injection hA with hA; injection hA with hA1 hA2; subst hA1; subst hA2; rw [Nat.zero_add] at hc0
      go_wp2_with fail
      refine (refInt_any A5 _ c5 _ x wr HQ.out.1 (by omega)).mono ?_
      rintro e w6 ⟨A6, m6, c6, rfl, hm6, hr, -, hb⟩
      have hm7 : m6 ≤ m4 + 40 := by rw [hm6, List.length_append, HLT.out, be8_len]; omega
      have HR6 := Lib.hid hr; have HB6 := Lib.hid hb; clear hr hb hm6
      go_wp2
      exact ⟨⟨j + 1, hlt, by go_num, A6, m6, c6, rfl, hm7, Lib.hid ⟨by rw [HT.out, ← List.append_assoc]; exact HR6.out, HQ.out.2.1.trans (HB6.out.mono HZr.out), HQ.out.2.2.trans (HB6.out.mono HQ.out.2.2.size)⟩⟩, by simp [intOf]; omega⟩
    · have HE : Hid (j = 5) := by unfold Hid; omega
      obtain rfl : j = 5 := HE.out
      have HT : Hid (L5.take 5 = L5) := by unfold Hid; rw [← HL5.out, List.take_length]
      obtain ⟨U6, hU⟩ : ∃ U, U = U4 ++ listB L5 := ⟨_, rfl⟩
      have HU6 : Hid (U6.length = m5) := by unfold Hid; rw [hU, ← HT.out]; exact HQ.out.1.len
      have HR6 : Hid (BRow wr A5 m5 c5 U6) := by unfold Hid; rw [hU, ← HT.out]; exact HQ.out.1
      have HG2 : Hid (R = U6 ++ intsB list ++ listB [(m : Int)] ++ pinsBs pins ++ textB body.data.toList) := by unfold Hid; rw [HG1.out, hU]
      have HW6 := Lib.hid HQ.out.2.1
      clear hU HQ HG1 HT HE hj hlt
      go_wp2_with fail
      refine wp_region_grow (by kernel_rfl) Later Later.refl (fun _ _ _ => Later.trans) [8] [([0, 1, 2, 4, 5, 6], 3), ([], 7)] (by kernel_rfl) (by kernel_rfl) (by kernel_rfl) ?_
      simp only [List.map_cons, List.map_nil, pick, List.getD_cons_zero, List.getD_cons_succ]
      have HR7 : Hid (BRow wr.drew A5 m5 c5 U6) := Lib.hid (Row.drew HR6.out); have HW7 := Lib.hid HW6.out.drew; have HZ7 : Hid (G ≤ wr.drew.heap.size) := HZr
      clear HR6 HW6 HZr
      generalize wr.drew = w7 at HR7 HW7 HZ7 ⊢
      have HN7 := Lib.hid HU6.out
      obtain ⟨A7, hA7⟩ : ∃ A, A = A5 := ⟨_, rfl⟩
      obtain ⟨m7, hm7e⟩ : ∃ A, A = m5 := ⟨_, rfl⟩
      obtain ⟨c7, hc7e⟩ : ∃ A, A = c5 := ⟨_, rfl⟩
      rw [← hA7, ← hm7e, ← hc7e] at HR7 ⊢
      rw [← hm7e] at hm5 HU6
      clear hA7 hm7e hc7e HN7
      obtain ⟨U7, hU7⟩ : ∃ A, A = U6 := ⟨_, rfl⟩
      rw [← hU7] at HR7 HU6 HG2
      have HU7 := HU6
      clear hU7 HU6 HX5 HN5 HR5 HW5 HZ5 HW4 HZ4
      have hm7 : m7 ≤ 0 + (8 + 1000) + 8 + 8 + 40 := by omega
      have HC : Hid (w7.heap[w.heap.size]? = w1.heap[w.heap.size]?) := Lib.hid (HW7.out.block _ (by rw [HGG.out]; omega))
      obtain ⟨hf0, hf1, hf2, hf3, hf4, hf5, hf6, hf7, hf8, hf9, hf10, hf11, hf12⟩ := stm_futs (F := Later) Later.refl (s := ⟨author, number, prev, time, kind, a, b, cc, list, pins, body, key, dig⟩) (W := w7) (fun w' h => h.block _ (by have := HZ7.out; rw [HGG.out] at this; omega)) (HC.out.trans HC1.out)
      refine wpGrow_cons ?_
      repeat (go_big_quiet_step (fail))
      refine wpQuiet_nil ?_
      clear hf0 hf1 hf2 hf3 hf4 hf5 hf6 hf7 hf8 hf9 hf10 hf11 hf12 HC
      go_wp2_with fail
      refine (refInts_any A7 _ c7 U7 A n c list w7 HR7.out (HL.out.later (HB1.out.trans (HW7.out.mono (B' := w.heap.size) (by rw [HGG.out]; omega)))) (by omega) (by omega)).mono ?_
      rintro e w8 ⟨A8, m8, c8, rfl, hm0, hr, hnew, hb⟩
      obtain ⟨U8, hU⟩ : ∃ U, U = U7 ++ intsB list := ⟨_, rfl⟩
      rw [← hU] at hm0 hr
      have HQ8 := Lib.hid hU
      have hm8 : m8 ≤ m7 + (8 + 8 * n) := by rw [hm0, hU, List.length_append, HU7.out, intsB_len, HN.out]; omega
      have HU8 : Hid (U8.length = m8) := Lib.hid hm0.symm
      have HR8 := Lib.hid hr; have HF : Hid (Later w7 w8) := Lib.hid hb; have HW8 := Lib.hid (HW7.out.trans (hb.mono HZ7.out)); have HZ8 : Hid (G ≤ w8.heap.size) := Lib.hid (Nat.le_trans HZ7.out hb.size)
      clear hm0 hr hU hb HR7 HU7
      go_wp2_with fail
      refine pieceEnd_normal ⟨HF.out, ?_⟩
      clear HF
      refine wpGrow_cons ?_
      refine wpQuiet_nil ?_
      go_wp2_with fail
      refine (refInt_any A8 _ c8 U8 (m : Int) w8 HR8.out (by omega)).mono ?_
      rintro e w9 ⟨A9, m9, c9, rfl, hm0, hr, hnew, hb⟩
      obtain ⟨U9, hU⟩ : ∃ U, U = U8 ++ be8 (m : Int) := ⟨_, rfl⟩
      rw [← hU] at hm0 hr
      have HQ9 := Lib.hid hU
      have hm9 : m9 ≤ m8 + 8 := by rw [hm0, hU, List.length_append, HU8.out, be8_len]; omega
      have HU9 : Hid (U9.length = m9) := Lib.hid hm0.symm
      have HR9 := Lib.hid hr; have HF : Hid (Later w8 w9) := Lib.hid hb; have HW9 := Lib.hid (HW8.out.trans (hb.mono HZ8.out)); have HZ9 : Hid (G ≤ w9.heap.size) := Lib.hid (Nat.le_trans HZ8.out hb.size)
      clear hm0 hr hU hb HR8 HU8
      go_wp2_with fail
      refine pieceEnd_normal ⟨HF.out, ?_⟩
      clear HF
      refine wpGrow_nil ?_
      repeat (go_big_quiet_step (fail))
      refine wpQuiet_nil ?_
      have HG3 : Hid (R = U9 ++ pinsBs pins ++ textB body.data.toList) := by unfold Hid; rw [HG2.out, HQ9.out, HQ8.out]; simp [listB]
      clear HG2 HQ9 HQ8 HW7 HZ7 HW8 HZ8
      have HC : Hid (w9.heap[w.heap.size]? = w1.heap[w.heap.size]?) := Lib.hid (HW9.out.block _ (by rw [HGG.out]; omega))
      obtain ⟨hc0, hc1, hc2, hc3, hc4, hc5, hc6, hc7, hc8, hc9, hc10, hc11, hc12⟩ := stm_cells (s := ⟨author, number, prev, time, kind, a, b, cc, list, pins, body, key, dig⟩) (HC.out.trans HC1.out)
      go_wp2_with fail
      clear hc0 hc1 hc2 hc3 hc4 hc5 hc6 hc7 hc8 hc9 hc10 hc11 hc12 HC
      go_loopw [3, 6] (fun v i wr => ∃ j : Nat, j ≤ m ∧ i = .int .i64 j ∧ ∃ A10 m10 c10, v = .slice A10 m10 c10 ∧ Hid (BRow wr A10 m10 c10 (U9 ++ pinsBs (pins.take j)) ∧ Below G w1 wr)) (fun _ i _ => m - (intOf i).toNat)
      case atStart => exact ⟨0, Nat.zero_le _, rfl, _, _, _, rfl, Lib.hid ⟨by simpa [pinsBs] using HR9.out, HW9.out⟩⟩
      case round =>
        obtain ⟨j, hj, rfl, A10, m10, c10, rfl, HQ⟩ := hrel
        have HZr : Hid (G ≤ wr.heap.size) := Lib.hid (by have := HQ.out.2.size; rw [HS1.out] at this; exact this)
        have HC : Hid (wr.heap[w.heap.size]? = w1.heap[w.heap.size]?) := Lib.hid (HQ.out.2.block _ (by rw [HGG.out]; omega))
        obtain ⟨hc0, hc1, hc2, hc3, hc4, hc5, hc6, hc7, hc8, hc9, hc10, hc11, hc12⟩ := stm_cells (s := ⟨author, number, prev, time, kind, a, b, cc, list, pins, body, key, dig⟩) (HC.out.trans HC1.out)
        by_cases hlt : j < m
        · obtain ⟨pb, off, hA, hd0, hd1, hd2⟩ := (HP.out.later (HB1.out.trans (HQ.out.2.mono (by rw [HGG.out]; omega)))).cells j hlt
          subst hA
          have HDS : Hid ((pins.getD j noPin).digest.size ≤ 1500000) := Lib.hid (pin_small HSM.out j (by show j < pins.length; rw [HM.out]; exact hlt))
          have HTJ : Hid (pinsBs (pins.take (j + 1)) = pinsBs (pins.take j) ++ (listB [(pins.getD j noPin).author, (pins.getD j noPin).height] ++ textB (pins.getD j noPin).digest.data.toList)) := by
            unfold Hid; rw [take_snoc' pins j noPin (by rw [HM.out]; exact hlt), pinsBs_snoc]; rfl
          have hm10 : m10 ≤ 1900000 := by
            have h1 := HQ.out.1.len
            have h2 := take_pins HSM.out j
            rw [List.length_append, HU9.out] at h1
            simp only at h2; omega
          generalize pins.getD j noPin = q at hd0 hd1 hd2 HDS HTJ
          obtain ⟨q1, q2, q3⟩ := q
          simp only at hd0 hd1 hd2 HDS HTJ
          have hq3 := HDS.out
          go_wp2_with fail
          clear hc0 hc1 hc2 hc3 hc4 hc5 hc6 hc7 hc8 hc9 hc10 hc11 hc12 hd0 hd1 hd2 HC
          have HP0 := Lib.hid (heap_alloc_new wr (.cells #[.int .i64 q1, .int .i64 q2, .string q3] 122))
          have HR0 := Lib.hid (HQ.out.1.later (one_new wr (.cells #[.int .i64 q1, .int .i64 q2, .string q3] 122)))
          have HW0 := Lib.hid (HQ.out.2.trans ((one_new wr (.cells #[.int .i64 q1, .int .i64 q2, .string q3] 122)).mono HZr.out))
          have HL0 : Hid (wr.heap.size < (wr.alloc (.cells #[.int .i64 q1, .int .i64 q2, .string q3] 122)).heap.size) := by unfold Hid; simp
          refine wp_region_grow (by kernel_rfl) Later Later.refl (fun _ _ _ => Later.trans) [10] [([0, 1, 2, 4, 5, 7, 8], 3), ([], 6), ([], 9)] (by kernel_rfl) (by kernel_rfl) (by kernel_rfl) ?_
          simp only [List.map_cons, List.map_nil, pick, List.getD_cons_zero, List.getD_cons_succ]
          have HP10 : Hid ((wr.alloc (.cells #[.int .i64 q1, .int .i64 q2, .string q3] 122)).drew.heap[wr.heap.size]? = _) := HP0
          have HR10 : Hid (BRow (wr.alloc (.cells #[.int .i64 q1, .int .i64 q2, .string q3] 122)).drew A10 m10 c10 (U9 ++ pinsBs (pins.take j))) := Lib.hid (Row.drew HR0.out)
          have HW10 := Lib.hid HW0.out.drew
          have HL10 : Hid (wr.heap.size < (wr.alloc (.cells #[.int .i64 q1, .int .i64 q2, .string q3] 122)).drew.heap.size) := HL0
          clear HP0 HR0 HW0 HL0
          generalize (wr.alloc (.cells #[.int .i64 q1, .int .i64 q2, .string q3] 122)).drew = w10 at HP10 HR10 HW10 HL10 ⊢
          have HZ10 : Hid (G ≤ w10.heap.size) := Lib.hid (by have := HZr.out; have := HL10.out; omega)
          obtain ⟨U10, hU⟩ : ∃ U, U = U9 ++ pinsBs (pins.take j) := ⟨_, rfl⟩
          have HU10 : Hid (U10.length = m10) := by unfold Hid; rw [hU]; exact HQ.out.1.len
          have HT10 : Hid (U9 ++ pinsBs (pins.take (j + 1)) = U10 ++ be8 q1 ++ be8 q2 ++ textB q3.data.toList) := by unfold Hid; rw [HTJ.out, hU]; simp [listB]
          rw [← hU] at HR10
          clear hU HQ HTJ HZr
          obtain ⟨hf0, hf1, hf2⟩ := pin_futs (F := Later) Later.refl (fun w' h => h.block _ HL10.out) HP10.out
          refine wpGrow_cons ?_
          repeat (go_big_quiet_step (fail))
          refine wpQuiet_nil ?_
          clear hf0 hf1 hf2
          go_wp2_with fail
          refine (refInt_any A10 _ c10 U10 q1 w10 HR10.out (by omega)).mono ?_
          rintro e w11 ⟨A11, m11, c11, rfl, hm0, hr, hnew, hb⟩
          obtain ⟨U11, hU⟩ : ∃ U, U = U10 ++ be8 q1 := ⟨_, rfl⟩
          rw [← hU] at hm0 hr
          have HQ11 := Lib.hid hU
          have hm11 : m11 ≤ m10 + 8 := by rw [hm0, hU, List.length_append, HU10.out, be8_len]; omega
          have HU11 : Hid (U11.length = m11) := Lib.hid hm0.symm
          have HR11 := Lib.hid hr; have HF : Hid (Later w10 w11) := Lib.hid hb; have HW11 := Lib.hid (HW10.out.trans (hb.mono HZ10.out)); have HZ11 : Hid (G ≤ w11.heap.size) := Lib.hid (Nat.le_trans HZ10.out hb.size)
          clear hm0 hr hU hb HR10 HU10
          go_wp2_with fail
          refine pieceEnd_normal ⟨HF.out, ?_⟩
          clear HF
          refine wpGrow_cons ?_
          refine wpQuiet_nil ?_
          go_wp2_with fail
          refine (refInt_any A11 _ c11 U11 q2 w11 HR11.out (by omega)).mono ?_
          rintro e w12 ⟨A12, m12, c12, rfl, hm0, hr, hnew, hb⟩
          obtain ⟨U12, hU⟩ : ∃ U, U = U11 ++ be8 q2 := ⟨_, rfl⟩
          rw [← hU] at hm0 hr
          have HQ12 := Lib.hid hU
          have hm12 : m12 ≤ m11 + 8 := by rw [hm0, hU, List.length_append, HU11.out, be8_len]; omega
          have HU12 : Hid (U12.length = m12) := Lib.hid hm0.symm
          have HR12 := Lib.hid hr; have HF : Hid (Later w11 w12) := Lib.hid hb; have HW12 := Lib.hid (HW11.out.trans (hb.mono HZ11.out)); have HZ12 : Hid (G ≤ w12.heap.size) := Lib.hid (Nat.le_trans HZ11.out hb.size)
          clear hm0 hr hU hb HR11 HU11
          go_wp2_with fail
          refine pieceEnd_normal ⟨HF.out, ?_⟩
          clear HF
          refine wpGrow_cons ?_
          refine wpQuiet_nil ?_
          go_wp2_with fail
          refine (refText_any A12 _ c12 U12 q3 w12 HR12.out (by omega) (by omega)).mono ?_
          rintro e w13 ⟨A13, m13, c13, rfl, hm0, hr, hnew, hb⟩
          obtain ⟨U13, hU⟩ : ∃ U, U = U12 ++ textB q3.data.toList := ⟨_, rfl⟩
          rw [← hU] at hm0 hr
          have HQ13 := Lib.hid hU
          have hm13 : m13 ≤ m12 + (8 + q3.size) := by rw [hm0, hU, List.length_append, HU12.out, textS_len]; omega
          have HU13 : Hid (U13.length = m13) := Lib.hid hm0.symm
          have HR13 := Lib.hid hr; have HF : Hid (Later w12 w13) := Lib.hid hb; have HW13 := Lib.hid (HW12.out.trans (hb.mono HZ12.out)); have HZ13 : Hid (G ≤ w13.heap.size) := Lib.hid (Nat.le_trans HZ12.out hb.size)
          clear hm0 hr hU hb HR12 HU12
          go_wp2_with fail
          refine pieceEnd_normal ⟨HF.out, ?_⟩
          clear HF
          refine wpGrow_nil ?_
          repeat (go_big_quiet_step (fail))
          refine wpQuiet_nil ?_
          go_wp2
          exact ⟨⟨j + 1, hlt, by go_num, A13, m13, c13, rfl, Lib.hid ⟨by rw [HT10.out, ← HQ11.out, ← HQ12.out, ← HQ13.out]; exact HR13.out, HW13.out⟩⟩, by simp [intOf]; omega⟩
        · have HE : Hid (j = m) := by unfold Hid; omega
          have HT : Hid (pins.take j = pins) := by unfold Hid; rw [HE.out, ← HM.out, List.take_length]
          have hm10 : m10 ≤ 1900000 := by
            have h1 := HQ.out.1.len
            have h2 := take_pins HSM.out j
            rw [List.length_append, HU9.out] at h1
            simp only at h2; omega
          have HR10 : Hid (BRow wr A10 m10 c10 (U9 ++ pinsBs pins)) := Lib.hid (by have := HQ.out.1; rw [HT.out] at this; exact this)
          have HW10 := Lib.hid HQ.out.2
          clear HQ HT
          go_wp2_with fail
          refine (refText_any A10 m10 c10 _ body wr HR10.out (by omega) (by omega)).mono ?_
          rintro e w11 ⟨A11, m11, c11, rfl, hm11, hr, hnew, hb⟩
          have HR11 := Lib.hid hr; have HB11 := Lib.hid hb; have HN11 := Lib.hid hnew; have HM11 := Lib.hid hm11
          clear hr hb hnew hm11 hc0 hc1 hc2 hc3 hc4 hc5 hc6 hc7 hc8 hc9 hc10 hc11 hc12 HC
          go_wp2
          go_ret
          have hsz : w.heap.size ≤ wr.heap.size := by have := HZr.out; rw [HGG.out] at this; omega
          exact ⟨A11, m11, c11, rfl, by rw [HG3.out]; exact HM11.out, by rw [HG3.out]; exact HR11.out, HN11.out.from hsz, HB1.out.trans ((HW10.out.mono (by rw [HGG.out]; omega)).trans (HB11.out.mono hsz))⟩
end Go.Proofs.YtnmpbjgccbnomaaGreat
