import Derived.Test.YtdeojmgcofakeaaPackAO
import Derived.Test.YtdeojmgcofakeaaPackAT
import Derived.Test.YtdeojmgcofakeaaPackAC
import Derived.Shelf.Abstract
import Derived.Lib.Bytealg
import Derived.Lib.Small
/- The law of layer 9's sanity check, over any program that gives what layer 9 asks. -/
namespace Go.Proofs.Ytdeojmgcofakeaa
open Go.RowKit
/-- A call that gives a list of statements. -/
def GivesL (w : World) (S : List Stm) (e : Ending) (w' : World) : Prop := ∃ A2 c2 l', e = .returned (.slice A2 (List.length l') c2) ∧ l'.map (·.s) = S ∧ LRow w' A2 l'.length c2 l' ∧ Below w.heap.size w w'
theorem GivesL.of_own {w w' : World} {S : List Stm} {e : Ending} (h : ∃ v l', e = .returned v ∧ l'.map (·.s) = S ∧ LOwn w' w.heap.size v l' ∧ Below w.heap.size w w') : GivesL w S e w' := by
  obtain ⟨v, l', rfl, hm, ho, hb⟩ := h
  obtain ⟨A, c, rfl, hr⟩ := ho.row
  exact ⟨A, c, l', rfl, hm, hr, hb⟩
def I64 (a : Int) : Prop := -9223372036854775808 ≤ a ∧ a ≤ 9223372036854775807
/-- The number of an epoch. -/
def epochOf (a b : Int) : Int := if a < 0 ∨ b < 1 then -1 else a / b
/-- What the program's functions of layer 9 give. -/
structure EpochC : Prop where
  of : ∀ (a b : Int) (w : World), I64 a → I64 b → Calls Try.prog 8 #[.int .i64 a, .int .i64 b] w (SaysL (.int .i64 (epochOf a b)) w)
  upto : ∀ (A : Option Addr) (n c : Nat) (l : List Pl) (tm : Int) (w : World), LRow w A n c l → n ≤ 100000 → Calls Try.prog 11 #[.slice A n c, .int .i64 tm] w (GivesL w (untilS tm (l.map (·.s))))
  window : ∀ (A : Option Addr) (n c : Nat) (l : List Pl) (fr tu : Int) (w : World), LRow w A n c l → n ≤ 100000 → Calls Try.prog 13 #[.slice A n c, .int .i64 fr, .int .i64 tu] w (GivesL w (windowS fr tu (l.map (·.s))))
  order : ∀ (A : Option Addr) (n c : Nat) (l : List Pl) (w : World), LRow w A n c l → n ≤ 100000 → Calls Try.prog 15 #[.slice A n c] w (GivesL w (orderS (l.map (·.s))))
  latest : ∀ (A : Option Addr) (n c : Nat) (l : List Pl) (w : World), LRow w A n c l → n ≤ 100000 → Calls Try.prog 17 #[.slice A n c] w (SaysL (.int .i64 (latestS (l.map (·.s)))) w)
theorem map_len {l : List Pl} {S : List Stm} (h : l.map (·.s) = S) : l.length = S.length := by rw [← h, List.length_map]
def bareP (au time : Int) : Pl := ⟨⟨au, 0, ⟨#[]⟩, time, 0, 0, 0, 0, [], [], ⟨#[]⟩, 0, ⟨#[]⟩⟩, none, 0, 0, none, 0, 0⟩
theorem bareP_ok (w : World) (au time : Int) : PlOk w (bareP au time) := ⟨Row.nilRow _ _, Row.nilRow _ _⟩
def three9 : List Pl := [bareP 2 5, bareP 0 9, bareP 1 5]
theorem three9_ok (w : World) : ∀ p ∈ three9, PlOk w p := fun p hp => by
  simp only [three9, List.mem_cons, List.not_mem_nil, or_false] at hp
  rcases hp with rfl | rfl | rfl <;> exact bareP_ok _ _ _
set_option maxRecDepth 100000 in
set_option maxHeartbeats 4000000 in
theorem awakeE_any (H : EpochC) (w : World) : Calls Try.prog 7 #[] w (SaysL (.bool true) w) := by
  go_enter Try.func7, Try.ntmps7
  have HNW : Hid (Below w.heap.size w (w.alloc (.cells (plsC three9).toArray 30))) := Lib.hid (one_new _ _)
  have HL : Hid (LRow (w.alloc (.cells (plsC three9).toArray 30)) (some ⟨w.heap.size, 0, none⟩) 3 3 three9) := Lib.hid ⟨Row.of_block (heap_alloc_new _ _) rfl, three9_ok _⟩
  go_wp2_with fail
  show Calls _ _ _ (w.alloc (.cells (plsC three9).toArray 30)) _
  generalize w.alloc (.cells (plsC three9).toArray 30) = y0 at *
  refine (H.order _ 3 3 three9 y0 HL.out (by omega)).mono ?_
  rintro e w1 ⟨A2, c2, l2, rfl, hm, hr, hb⟩
  have HB1 := Lib.hid (HNW.out.trans (hb.mono HNW.out.size)); have HL1 := Lib.hid (HL.out.later hb); have HR := Lib.hid hr
  have HA0 : Hid ((l2.getD 0 noPl).s.author = 1) := Lib.hid (by rw [← getD_s, hm]; rfl)
  have HLN : Hid (l2.length = 3) := Lib.hid (by rw [map_len hm]; rfl)
  rw [HLN.out] at HR ⊢
  clear hm hr hb HNW HL
  go_wp2_with fail
  refine (H.of 10 5 w1 ⟨by omega, by omega⟩ ⟨by omega, by omega⟩).mono ?_
  rw [show epochOf 10 5 = 2 from rfl]
  rintro e w2 ⟨rfl, hb⟩
  have HB2 := Lib.hid (HB1.out.trans (hb.mono HB1.out.size)); have HL2 := Lib.hid (HL1.out.later hb); replace HR := Lib.hid (HR.out.later hb)
  clear hb HB1 HL1
  go_wp2_with fail
  refine (H.of (-1) 5 w2 ⟨by omega, by omega⟩ ⟨by omega, by omega⟩).mono ?_
  rw [show epochOf (-1) 5 = -1 from rfl]
  rintro e w3 ⟨rfl, hb⟩
  have HB3 := Lib.hid (HB2.out.trans (hb.mono HB2.out.size)); have HL3 := Lib.hid (HL2.out.later hb); replace HR := Lib.hid (HR.out.later hb)
  clear hb HB2 HL2
  go_wp2_with fail
  refine (H.upto _ 3 3 three9 5 w3 HL3.out (by omega)).mono ?_
  rintro e w4 ⟨A4, c4, l4, rfl, hm, -, hb⟩
  have hl4 : l4.length = 2 := by rw [map_len hm]; rfl
  rw [hl4]
  have HB4 := Lib.hid (HB3.out.trans (hb.mono HB3.out.size)); have HL4 := Lib.hid (HL3.out.later hb); replace HR := Lib.hid (HR.out.later hb)
  clear hm hl4 hb HB3 HL3
  go_wp2_with fail
  refine (H.window _ 3 3 three9 6 9 w4 HL4.out (by omega)).mono ?_
  rintro e w5 ⟨A5, c5, l5, rfl, hm, -, hb⟩
  have hl5 : l5.length = 1 := by rw [map_len hm]; rfl
  rw [hl5]
  have HB5 := Lib.hid (HB4.out.trans (hb.mono HB4.out.size)); have HL5 := Lib.hid (HL4.out.later hb); replace HR := Lib.hid (HR.out.later hb)
  clear hm hl5 hb HB4 HL4
  obtain ⟨b, off, hA, hc⟩ := HR.out.cells 0 (by omega)
  subst hA
  have hc0 : w5.cell? ⟨b, off, none⟩ = some (.int .i64 1) := by have h := hc 0 (by rw [Pl.size]; decide); rw [Nat.zero_mul, Nat.add_zero] at h; rw [h]; show some (Value.int .i64 (l2.getD 0 noPl).s.author) = _; rw [HA0.out]
  clear hc
  go_wp2_with fail
  refine (H.latest _ 3 3 three9 w5 HL5.out (by omega)).mono ?_
  rw [show latestS (three9.map (·.s)) = 9 from rfl]
  rintro e w6 ⟨rfl, hb⟩
  have HB6 := Lib.hid (HB5.out.trans (hb.mono HB5.out.size))
  clear hb HB5 hc0
  go_wp2_with fail
  go_ret
  exact ⟨rfl, HB6.out⟩
theorem epochOf_in {k n t : Int} (hn : 1 ≤ n) (hk : 0 ≤ k) (h1 : k * n ≤ t) (h2 : t ≤ k * n + n - 1) : epochOf t n = k := by
  have hkn : 0 ≤ k * n := Int.mul_nonneg hk (by omega)
  unfold epochOf
  rw [if_neg (by omega)]
  have h3 : k ≤ t / n := Int.le_ediv_of_mul_le (by omega) h1
  have h4 : t / n < k + 1 := Int.ediv_lt_of_lt_mul (by omega) (by rw [Int.add_mul]; omega)
  omega
theorem epochOf_pos {t n : Int} (hn : 1 ≤ n) (ht : 0 ≤ t) : 0 ≤ epochOf t n ∧ epochOf t n ≤ t ∧ t < (epochOf t n + 1) * n := by
  unfold epochOf
  rw [if_neg (by omega)]
  exact ⟨Int.ediv_nonneg ht (by omega), Int.ediv_le_self _ ht, Int.lt_ediv_add_one_mul_self t (by omega)⟩
theorem window_mem {fr tu : Int} {l : List Stm} {s : Stm} (h : s ∈ windowS fr tu l) : s ∈ l ∧ fr ≤ s.time ∧ s.time ≤ tu := by
  have h1 := List.mem_filter.1 h
  rw [Bool.and_eq_true, decide_eq_true_eq, decide_eq_true_eq] at h1
  exact ⟨h1.1, h1.2.1, h1.2.2⟩
theorem latest_bd {l : List Stm} {b : Int} (h : ∀ s ∈ l, 0 ≤ s.time ∧ s.time ≤ b) (hl : 0 < l.length) : 0 ≤ latestS l ∧ latestS l ≤ b ∧ ∀ s ∈ l, s.time ≤ latestS l := by
  obtain ⟨i, hi, he⟩ := latestUp_mem l l.length hl
  have h1 := h _ (getD_mem7 hi)
  unfold latestS
  refine ⟨by rw [he]; exact h1.1, by rw [he]; exact h1.2, fun s hs => ?_⟩
  obtain ⟨j, hj, hje⟩ := List.mem_iff_getElem.1 hs
  have h2 := latestUp_ge l l.length j hj
  rw [List.getD_eq_getElem?_getD, List.getElem?_eq_getElem hj] at h2
  rw [← hje]; exact h2
set_option maxRecDepth 100000 in
set_option maxHeartbeats 4000000 in
theorem each_any (H : EpochC) (TA : Option Addr) (tn tc : Nat) (t : List Int) (v0 : Int) (w : World) (ht : IRow w TA tn tc t) :
    Calls Try.prog 6 #[.slice TA tn tc, .int .i64 v0] w (SaysL (.bool true) w) := by
  have HAW : Hid (∀ y, Below w.heap.size w y → Calls Try.prog 7 #[] y (SaysL (.bool true) y)) := Lib.hid fun y _ => awakeE_any H y
  have HT := Lib.hid ht; clear ht
  go_enter Try.func6, Try.ntmps6
  go_wp2_with fail
  refine (light_any TA tn tc w).mono ?_
  rintro e w0 ⟨rfl, rfl⟩
  by_cases hn : tn ≤ 400
  · have g : decide (tn ≤ 400) = true := decide_eq_true hn
    go_wp2_with fail
    clear g
    refine (roll_any w.heap.size TA tn tc t w HT.out (by omega) (Nat.le_refl _) (fun ad e h0 => Row.lt HT.out (by decide) ad e h0)).mono ?_
    rintro e w1 ⟨rfl, hd, hb⟩
    obtain ⟨D, hD⟩ : ∃ D, D = w.heap.size := ⟨_, rfl⟩
    have HD : Hid (∃ k, DiceAt w1 w.heap.size D t k) := Lib.hid ⟨0, by rw [hD]; exact hd⟩
    have HB := Lib.hid hb
    have HDD : Hid (w.heap.size = D) := Lib.hid hD.symm
    rw [← hD]
    clear hd hb hD HT
    go_wp2_with fail
    refine (lists_g w.heap.size D t 3 3 rfl 4 w1 HD.out (by omega) (by omega)).mono ?_
    rintro e w2 ⟨v, l, rfl, hg1, hl1, hg, htl⟩
    obtain ⟨A, c, hv, hr⟩ := hg1.own.row
    subst hv
    have HL := Lib.hid hr
    have HB2 := Lib.hid (HB.out.trans (hg.2.below (by have := HDD.out; omega) HB.out.size))
    have hln : l.length ≤ 18 := hl1
    have HTM : Hid (∀ s ∈ l.map (·.s), 0 ≤ s.time ∧ s.time ≤ 92) := Lib.hid fun s hs => by
      obtain ⟨p, hp, rfl⟩ := List.mem_map.1 hs
      have := htl p hp
      omega
    have HSL : Hid ((l.map (·.s)).length = l.length) := Lib.hid (List.length_map _)
    clear hg1 hl1 hg htl hr HB HD HDD
    obtain ⟨S, hS⟩ : ∃ S, l.map (·.s) = S := ⟨_, rfl⟩
    have HSE := Lib.hid hS
    rw [hS] at HTM HSL
    clear hS
    go_wp2_with fail
    refine (mod_any v0 30 w2 (by omega) (by omega)).mono ?_
    rintro e w3 ⟨rfl, rfl⟩
    have hx := modF_bd v0 30 (by omega)
    generalize modF v0 30 = x at *
    have hx0 := hx.1; have hx1 := hx.2
    clear hx
    have hno : wrap64 (1 + x) = 1 + x := wrap64_id7 _ (by omega)
    go_wp2_with fail
    clear hno
    generalize hN : (1 + x : Int) = N at *
    have hn1 : 1 ≤ N := by omega
    have hn2 : N ≤ 30 := by omega
    clear hN hx0 hx1
    have HLV : Hid ((S = [] ∧ latestS S = -1) ∨ (0 < S.length ∧ 0 ≤ latestS S ∧ latestS S ≤ 92 ∧ ∀ s ∈ S, s.time ≤ latestS S)) := Lib.hid (by
      by_cases h0 : S = []
      · exact .inl ⟨h0, by rw [h0]; rfl⟩
      · have h1 : 0 < S.length := List.length_pos_iff.2 h0
        exact .inr ⟨h1, latest_bd HTM.out h1⟩)
    have HOV : Hid (epochOf (latestS S) N = -1 ∧ l.length = 0 ∨ (0 ≤ epochOf (latestS S) N ∧ epochOf (latestS S) N ≤ 92 ∧ eachUp S N (epochOf (latestS S) N + 1).toNat = l.length)) := Lib.hid (by
      rcases HLV.out with ⟨h0, h1⟩ | ⟨h0, h1, h2, h3⟩
      · exact .inl ⟨by rw [h1]; rfl, by rw [← HSL.out, h0]; rfl⟩
      · obtain ⟨k1, k2, k3⟩ := epochOf_pos hn1 h1
        refine .inr ⟨k1, by omega, ?_⟩
        rw [eachUp_eq S N hn1 (fun s hs => (HTM.out s hs).1), ← HSL.out, show (((epochOf (latestS S) N + 1).toNat : Nat) : Int) = epochOf (latestS S) N + 1 by omega, below_all fun s hs => by have := h3 s hs; omega])
    have HLI : Hid (I64 (latestS S)) := Lib.hid (by
      rcases HLV.out with ⟨_, h1⟩ | ⟨_, h1, h2, _⟩
      · rw [h1]; exact ⟨by omega, by omega⟩
      · exact ⟨by omega, by omega⟩)
    have HEL : Hid (∀ k, eachUp S N k ≤ l.length) := Lib.hid fun k => by
      rw [eachUp_eq S N hn1 (fun s hs => (HTM.out s hs).1), ← HSL.out]
      exact List.length_filter_le _ _
    generalize hov : epochOf (latestS S) N = OV at *
    have HOE := Lib.hid hov; clear hov
    clear HLV
    go_loopw [8, 9] (fun i8 i9 wr => ∃ k : Nat, i9 = .int .i64 k ∧ i8 = .int .i64 (eachUp S N k : Nat) ∧ Hid ((k : Int) ≤ OV + 1 ∧ Below w.heap.size w wr ∧ Below w2.heap.size w2 wr)) (fun _ i9 _ => 401 - (intOf i9).toNat)
    case atStart => exact ⟨0, rfl, rfl, Lib.hid ⟨by rcases HOV.out with h | h <;> omega, HB2.out, Below.refl _ _⟩⟩
    case round =>
      obtain ⟨k, rfl, rfl, HQ⟩ := hrel
      have HLK := Lib.hid (HL.out.later HQ.out.2.2)
      go_wp2_with fail
      refine (H.latest A l.length c l wr HLK.out (by omega)).mono ?_
      rw [HSE.out]
      rintro e w4 ⟨rfl, hb⟩
      have HB4 := Lib.hid (HQ.out.2.1.trans (hb.mono HQ.out.2.1.size)); have HC4 := Lib.hid (HQ.out.2.2.trans (hb.mono HQ.out.2.2.size))
      have HKO := Lib.hid HQ.out.1
      clear hb HQ HLK
      go_wp2_with fail
      refine (H.of (latestS S) N w4 HLI.out ⟨by omega, by omega⟩).mono ?_
      rw [HOE.out]
      rintro e w5 ⟨rfl, hb⟩
      have HB5 := Lib.hid (HB4.out.trans (hb.mono HB4.out.size)); have HC5 := Lib.hid (HC4.out.trans (hb.mono HC4.out.size))
      clear hb HB4 HC4
      by_cases hko : (k : Int) ≤ OV
      · have b0 : decide ((k : Int) ≤ OV) = true := decide_eq_true hko
        have hk92 : (k : Int) ≤ 92 := by rcases HOV.out with h | h <;> omega
        have b1 : decide ((k : Int) < 400) = true := decide_eq_true (by omega)
        have hk400 : (k : Int) < 400 := by omega
        have hm0 : 0 ≤ (k : Int) * N := Int.mul_nonneg (by omega) (by omega)
        have hm1 : (k : Int) * N ≤ 92 * 30 := Int.mul_le_mul hk92 hn2 (by omega) (by omega)
        have ho1 : wrap64 ((k : Int) * N) = (k : Int) * N := wrap64_id7 _ (by omega)
        have ho2 : wrap64 ((k : Int) * N + N) = (k : Int) * N + N := wrap64_id7 _ (by omega)
        have ho3 : wrap64 ((k : Int) * N + N - 1) = (k : Int) * N + N - 1 := wrap64_id7 _ (by omega)
        have HLK := Lib.hid (HL.out.later HC5.out)
        go_wp2_with fail
        refine (H.window A l.length c l ((k : Int) * N) ((k : Int) * N + N - 1) w5 HLK.out (by omega)).mono ?_
        rw [HSE.out]
        rintro e w6 ⟨A6, c6, l6, rfl, hm6, hr6, hb⟩
        have HB6 := Lib.hid (HB5.out.trans (hb.mono HB5.out.size)); have HC6 := Lib.hid (HC5.out.trans (hb.mono HC5.out.size))
        have HR6 := Lib.hid hr6
        have HUP : Hid (eachUp S N (k + 1) = eachUp S N k + l6.length) := Lib.hid (by rw [eachUp, ← map_len hm6])
        have HTI : Hid (∀ i, i < l6.length → I64 (l6.getD i noPl).s.time ∧ epochOf (l6.getD i noPl).s.time N = (k : Int)) := Lib.hid fun i hi => by
          have h1 : (l6.getD i noPl).s ∈ windowS ((k : Int) * N) ((k : Int) * N + N - 1) S := by rw [← hm6]; exact List.mem_map_of_mem (hr6.get i hi)
          have h2 := window_mem h1
          exact ⟨⟨by omega, by omega⟩, epochOf_in hn1 (by omega) h2.2.1 h2.2.2⟩
        have hs1 : ((eachUp S N k : Nat) : Int) + (l6.length : Int) ≤ 1000 := by have h := HEL.out (k + 1); rw [HUP.out] at h; omega
        have ho4 : wrap64 (((eachUp S N k : Nat) : Int) + (l6.length : Int)) = ((eachUp S N k : Nat) : Int) + (l6.length : Int) := wrap64_id7 _ (by omega)
        clear hm6 hr6 hb HLK HB5 HC5 ho1 ho2 ho3
        generalize eachUp S N k = u at *
        go_wp2_with fail
        clear ho4
        go_loopw [11] (fun i11 wq => ∃ i : Nat, i ≤ l6.length ∧ i11 = .int .i64 i ∧ Hid (Below w.heap.size w wq ∧ Below w2.heap.size w2 wq ∧ Below w6.heap.size w6 wq)) (fun i11 _ => l6.length - (intOf i11).toNat)
        case atStart => exact ⟨0, Nat.zero_le _, rfl, Lib.hid ⟨HB6.out, HC6.out, Below.refl _ _⟩⟩
        case round =>
          obtain ⟨i, hi, rfl, HQ⟩ := hrel
          by_cases hil : i < l6.length
          · have hil2 : (i : Int) < (l6.length : Int) := by omega
            obtain ⟨b, off, hA, hc⟩ := (HR6.out.later HQ.out.2.2).cells i hil
            subst hA
            have hc3 : wr.cell? ⟨b, off + i * 13 + 3, none⟩ = some (.int .i64 (l6.getD i noPl).s.time) := hc 3 (by rw [Pl.size]; decide)
            have HE := Lib.hid (HTI.out i hil)
            clear hc
            generalize (l6.getD i noPl).s.time = tv at *
            go_wp2_with fail
            refine (H.of tv N wr HE.out.1 ⟨by omega, by omega⟩).mono ?_
            rw [HE.out.2]
            rintro e w7 ⟨rfl, hb⟩
            have HB7 := Lib.hid (HQ.out.1.trans (hb.mono HQ.out.1.size)); have HC7 := Lib.hid (HQ.out.2.1.trans (hb.mono HQ.out.2.1.size)); have HD7 := Lib.hid (HQ.out.2.2.trans (hb.mono HQ.out.2.2.size))
            clear hb hc3 HE HQ
            go_wp2_with fail
            exact ⟨⟨i + 1, by omega, by go_num, Lib.hid ⟨HB7.out, HC7.out, HD7.out⟩⟩, by simp [intOf]; omega⟩
          · have hil2 : ¬ (i : Int) < (l6.length : Int) := by omega
            go_wp2_with fail
            exact ⟨⟨k + 1, by go_num, by rw [HUP.out]; go_num, Lib.hid ⟨by omega, HQ.out.1, HQ.out.2.1⟩⟩, by simp [intOf]; omega⟩
      · have b0 : decide ((k : Int) ≤ OV) = false := decide_eq_false hko
        have HEQ : Hid (eachUp S N k = l.length) := Lib.hid (by
          have h1 := HKO.out
          rcases HOV.out with ⟨h2, h3⟩ | ⟨h2, _, h3⟩
          · have hk0 : k = 0 := by omega
            rw [hk0, h3]; rfl
          · rw [← h3, show (OV + 1).toNat = k by omega])
        rw [HEQ.out]
        go_wp2_with fail
        refine (HAW.out w5 HB5.out).mono ?_
        rintro e w8 ⟨rfl, hb⟩
        have HB8 := Lib.hid (HB5.out.trans (hb.mono HB5.out.size))
        clear hb
        go_wp2_with fail
        go_ret
        exact ⟨rfl, HB8.out⟩
  · have g : decide (tn ≤ 400) = false := decide_eq_false hn
    go_wp2_with fail
    clear g
    refine (HAW.out w (Below.refl _ _)).mono ?_
    rintro e w1 ⟨rfl, hb⟩
    have HB := Lib.hid hb; clear hb
    go_wp2_with fail
    go_ret
    exact ⟨rfl, HB.out⟩
end Go.Proofs.Ytdeojmgcofakeaa
/- The walks of epoch's Of and Latest. -/
namespace Go.Proofs.Ytdeojmgcofakeaa
open Go.RowKit
set_option maxRecDepth 100000 in
set_option maxHeartbeats 4000000 in
theorem eOf_any (a b : Int) (w : World) (ha : I64 a) (hb : I64 b) : Calls Try.prog 8 #[.int .i64 a, .int .i64 b] w (SaysL (.int .i64 (epochOf a b)) w) := by
  obtain ⟨h1, h2⟩ := ha
  obtain ⟨h3, h4⟩ := hb
  go_enter Try.func8, Try.ntmps8
  by_cases g1 : a < 0
  · have e : epochOf a b = -1 := if_pos (.inl g1)
    rw [e]
    have d1 : decide (a < 0) = true := decide_eq_true g1
    go_wp2
    go_ret
    exact ⟨rfl, Below.refl _ _⟩
  · have d1 : decide (a < 0) = false := decide_eq_false g1
    by_cases g2 : b < 1
    · have e : epochOf a b = -1 := if_pos (.inr g2)
      rw [e]
      have d2 : decide (b < 1) = true := decide_eq_true g2
      go_wp2
      go_ret
      exact ⟨rfl, Below.refl _ _⟩
    · have e : epochOf a b = a / b := if_neg (by omega)
      rw [e]
      have d2 : decide (b < 1) = false := decide_eq_false g2
      have hb0 : b ≠ 0 := by omega
      have hq1 : 0 ≤ a / b := Int.ediv_nonneg (by omega) (by omega)
      have hq2 : a / b ≤ a := Int.ediv_le_self _ (by omega)
      have ht : a.tdiv b = a / b := Int.tdiv_eq_ediv_of_nonneg (by omega)
      have HQ := Lib.hid (And.intro hq1 (And.intro hq2 ht))
      go_wp2
      go_ret
      refine ⟨?_, Below.refl _ _⟩
      first | rfl | (congr 2; omega)
end Go.Proofs.Ytdeojmgcofakeaa
/- The walk of epoch's Latest. -/
namespace Go.Proofs.Ytdeojmgcofakeaa
open Go.RowKit
theorem latestUp_max {l : List Stm} {j : Nat} (hj : 0 < j) : latestUp l (j + 1) = max (latestUp l j) (l.getD j noStm).time := by
  show (if j = 0 ∨ latestUp l j < (l.getD j noStm).time then (l.getD j noStm).time else latestUp l j) = _
  split
  · rename_i h
    rcases h with h | h <;> omega
  · rename_i h
    omega
theorem latestUp_one (l : List Stm) : latestUp l 1 = (l.getD 0 noStm).time := by
  show (if (0 : Nat) = 0 ∨ latestUp l 0 < (l.getD 0 noStm).time then (l.getD 0 noStm).time else latestUp l 0) = _
  rw [if_pos (.inl rfl)]
set_option maxRecDepth 100000 in
set_option maxHeartbeats 4000000 in
theorem eLatest_any (A : Option Addr) (n c : Nat) (l : List Pl) (w : World) (hl : LRow w A n c l) (hn : n ≤ 100000) : Calls Try.prog 17 #[.slice A n c] w (SaysL (.int .i64 (latestS (l.map (·.s)))) w) := by
  have HL := Lib.hid hl; have HLN := Lib.hid hl.len
  clear hl
  go_enter Try.func17, Try.ntmps17
  by_cases h0 : n = 0
  · have hl0 : l = [] := List.eq_nil_of_length_eq_zero (by rw [HLN.out]; exact h0)
    subst hl0 h0
    go_wp2
    go_ret
    exact ⟨rfl, Below.refl _ _⟩
  · have HS : Hid (latestS (l.map (·.s)) = latestUp (l.map (·.s)) n) := Lib.hid (by unfold latestS; rw [List.length_map, HLN.out])
    rw [HS.out]
    obtain ⟨b, off, hA, hc⟩ := HL.out.cells 0 (by omega)
    subst hA
    have H1 : Hid (latestUp (l.map (·.s)) 1 = (l.getD 0 noPl).s.time) := Lib.hid (by rw [latestUp_one, getD_s])
    have hc3 : w.cell? ⟨b, off + 3, none⟩ = some (.int .i64 (l.getD 0 noPl).s.time) := by have h := hc 3 (by rw [Pl.size]; decide); rw [Nat.zero_mul, Nat.add_zero] at h; exact h
    clear hc
    rw [← H1.out] at hc3
    have hn0 : (n == 0) = false := by simpa using h0
    have h0n : 0 < n := by omega
    generalize hLU : latestUp (l.map (·.s)) = LU at *
    have HLU := Lib.hid hLU
    clear hLU
    have HMX : Hid (∀ j, j < n → LU (max 1 (j + 1)) = max (LU (max 1 j)) (l.getD j noPl).s.time) := Lib.hid fun j hj => by
      rw [← HLU.out]
      by_cases hj0 : j = 0
      · subst hj0
        rw [show max 1 (0 + 1) = 1 from rfl, show max 1 0 = 1 from rfl, latestUp_one, getD_s]; omega
      · rw [show max 1 (j + 1) = j + 1 by omega, show max 1 j = j by omega, latestUp_max (by omega), getD_s]
    go_wp2_with fail
    all_goals (try go_simp)
    go_loopw [3, 15] (fun v i wr => ∃ j : Nat, j ≤ n ∧ i = .int .i64 j ∧ v = .int .i64 (LU (max 1 j)) ∧ Hid (Below w.heap.size w wr)) (fun _ i _ => n - (intOf i).toNat)
    case atStart => exact ⟨0, Nat.zero_le _, rfl, rfl, Lib.hid (Below.refl _ _)⟩
    case round =>
      obtain ⟨j, hj, rfl, rfl, HQ⟩ := hrel
      by_cases hlt : j < n
      · have hlt2 : (j : Int) < (n : Int) := by omega
        obtain ⟨b2, off2, hA, hc⟩ := (HL.out.later HQ.out).cells j hlt
        injection hA with hA
        injection hA with e1 e2
        subst e1 e2
        have HC := Lib.hid hc
        have HM := Lib.hid (HMX.out j hlt)
        clear hc
        generalize l.getD j noPl = q at *
        generalize hlu : LU (max 1 j) = lv at *
        have HLV := Lib.hid hlu
        clear hlu hc3
        have hck : (wr.alloc (.cells q.arr 30)).cell? ⟨wr.heap.size, 3, none⟩ = some (.int .i64 q.s.time) := (cell_of_row _ _ 3 _ _ _ (heap_alloc_new wr (.cells q.arr 30))).trans rfl
        have HN := Lib.hid (one_new wr (.cells q.arr 30))
        go_wp2_with (first | (refine wpList_load_cells rfl 30 (.tmp 17) rfl b (off + j * 13) rfl q.arr _ Try.underlying30 rfl q.info HC.out ?_) | (refine wpList_store_new rfl 30 (.tmp 5) (.tmp 18) rfl 30 _ q.arr rfl rfl q.info rfl q.one ?_))
        exact ⟨⟨j + 1, hlt, by go_num, by rw [HM.out], Lib.hid (HQ.out.trans (HN.out.mono HQ.out.size))⟩, by simp [intOf]; omega⟩
      · have hlt2 : ¬ (j : Int) < (n : Int) := by omega
        have hje : max 1 j = n := by omega
        rw [hje]
        clear hje
        go_wp2
        go_ret
        exact ⟨rfl, HQ.out⟩
end Go.Proofs.Ytdeojmgcofakeaa
/- The walks of epoch's taken, Until, Window. -/
namespace Go.Proofs.Ytdeojmgcofakeaa
open Go.RowKit
set_option maxRecDepth 100000 in
set_option maxHeartbeats 4000000 in
theorem eTaken_any (f : Stm → Bool) (g : Nat) (cb : Array Value) (A : Option Addr) (n c : Nat) (l : List Pl) (w : World) (hl : LRow w A n c l) (hn : n ≤ 100000)
    (eg : ∀ args w, (callFunc g args).run Try.prog w = .ok (.enter g args) w) (hf : ∀ y (p : Pl), Below w.heap.size w y → Calls Try.prog g (#[.agg p.arr] ++ cb) y (SaysL (.bool (f p.s)) y)) :
    Calls Try.prog 26 #[.slice A n c, .func (.func g) #[] cb] w (GivesL w ((l.map (·.s)).filter f)) := by
  refine Calls.mono ?_ fun e w' h => GivesL.of_own h
  have HL := Lib.hid hl; have HLN := Lib.hid hl.len; have HF := Lib.hid hf
  clear hl hf
  go_enter Try.func26, Try.ntmps26
  go_wp2_with fail
  go_loopw [5, 10] (fun v i wr => ∃ (j : Nat) (l' : List Pl), j ≤ n ∧ i = .int .i64 j ∧ Hid (LOwn wr w.heap.size v l' ∧ l'.map (·.s) = ((l.take j).map (·.s)).filter f ∧ Below w.heap.size w wr)) (fun _ i _ => n - (intOf i).toNat)
  case atStart => exact ⟨0, [], Nat.zero_le _, rfl, Lib.hid ⟨LOwn.nil _ _, rfl, Below.refl _ _⟩⟩
  case round =>
    obtain ⟨j, l', hj, rfl, HQ⟩ := hrel
    by_cases hlt : j < n
    · have hlt2 : (j : Int) < (n : Int) := by omega
      have HLJ := Lib.hid (HL.out.later HQ.out.2.2)
      obtain ⟨b, off, hA, hc⟩ := HLJ.out.cells j hlt
      subst hA
      have HOK := Lib.hid (HLJ.out.at j hlt)
      have HT : Hid (((l.take (j + 1)).map (·.s)).filter f = ((l.take j).map (·.s)).filter f ++ [(l.getD j noPl).s].filter f) := Lib.hid (by rw [take_snocP l j (by rw [HLN.out]; exact hlt), List.map_append, List.filter_append]; rfl)
      have HC := Lib.hid hc
      have HCL : Hid (Clear u5 (l.getD j noPl)) := Lib.hid (HL.out.clear (Nat.le_refl _) (fun k e => own_ge HQ.out.1.own k e) _ (HL.out.get j hlt))
      clear hc HLJ
      have HLE : Hid (l'.length ≤ n) := Lib.hid (by have h := congrArg List.length HQ.out.2.1; have h2 := List.length_filter_le f ((l.take j).map (·.s)); simp only [List.length_map, List.length_take] at h h2; omega)
      generalize l.getD j noPl = q at *
      have HN := Lib.hid (one_new wr (.cells q.arr 30))
      have HX : Hid ((wr.alloc (.cells q.arr 30)).heap[wr.heap.size]? = some (.cells q.arr 30 (0, 0))) := Lib.hid (heap_alloc_new _ _)
      have HB := Lib.hid (HQ.out.2.2.trans (HN.out.mono HQ.out.2.2.size))
      have HO := Lib.hid (HQ.out.1.later HN.out)
      have HOK2 := Lib.hid (HOK.out.later HN.out)
      have HM := Lib.hid HQ.out.2.1
      go_upto_region 5 with (first | (refine wpList_load_cells rfl 30 (.tmp 12) rfl b (off + j * 13) rfl q.arr _ Try.underlying30 rfl q.info HC.out ?_) | (refine wpList_store_new rfl 30 (.tmp 7) (.tmp 13) rfl 30 _ q.arr rfl rfl q.info rfl q.one ?_))
      clear HQ HC HOK HN
      generalize wr.alloc (.cells q.arr 30) = x2 at *
      generalize wr.heap.size = gb at *
      by_cases hb : f q.s = true
      · have HT2 : Hid (((l.take (j + 1)).map (·.s)).filter f = ((l.take j).map (·.s)).filter f ++ [q.s]) := Lib.hid (by rw [HT.out, List.filter_cons_of_pos hb, List.filter_nil])
        have HFC := Lib.hid (HF.out x2 q HB.out)
        rw [hb] at HFC
        go_wp2_with (refine wpList_load_row rfl 30 (.tmp 7) rfl gb rfl 30 q.arr (0, 0) _ HX.out Try.underlying30 rfl q.info ?_)
        refine HFC.out.mono ?_
        rintro e w2 ⟨rfl, hbw⟩
        have HX2 := Lib.hid ((hbw.block _ (Array.getElem?_eq_some_iff.1 HX.out).1).trans HX.out)
        have HO2 := Lib.hid (HO.out.later hbw); have HB2 := Lib.hid (HB.out.trans (hbw.mono HB.out.size)); have HOK3 := Lib.hid (HOK2.out.later hbw)
        clear hbw HX HO HB HOK2 HFC
        have hle := HLE.out
        have hvs : q.arr.size = 13 := rfl
        go_wp2_with (first | (refine wpList_load_row rfl 30 (.tmp 7) rfl gb rfl 30 q.arr (0, 0) _ HX2.out Try.underlying30 rfl q.info ?_) | (at_builtin; (first | rw [fold13] | (rw [← hvs, fold13])); go_must (refine wpList_app_newK w2 rfl (.tmp 17) (.tmp 19) 22 30 rfl w.heap.size Try.underlying22 stm_info rfl _ l'.length (plsC l') HO2.out.own rfl 1 q.arr rfl q.ones rfl rfl (by unfold maxLen; omega) (by omega) HB2.out.size ?_); intro x3 z3 ho hb3 hk1 hk2; rw [show q.arr.toList = plsC [q] from rfl] at ho; have HO3 := Lib.hid (HO2.out.app (m := [q]) (fun r hr => by rw [List.mem_singleton.1 hr]; exact ⟨HOK3.out, HCL.out⟩) ho hk1 hk2); have HB3 := Lib.hid (HB2.out.trans hb3); clear ho hb3 hk1 hk2))
        refine ⟨⟨j + 1, l' ++ [q], hlt, by go_num, Lib.hid ⟨HO3.out, ?_, HB3.out⟩⟩, by simp [intOf]; omega⟩
        rw [List.map_append, HM.out, HT2.out, List.map_cons, List.map_nil]
      · have HT2 : Hid (((l.take (j + 1)).map (·.s)).filter f = ((l.take j).map (·.s)).filter f) := Lib.hid (by rw [HT.out, List.filter_cons_of_neg hb, List.filter_nil, List.append_nil])
        have HFC := Lib.hid (HF.out x2 q HB.out)
        rw [show f q.s = false by simpa using hb] at HFC
        clear hb
        go_wp2_with (refine wpList_load_row rfl 30 (.tmp 7) rfl gb rfl 30 q.arr (0, 0) _ HX.out Try.underlying30 rfl q.info ?_)
        refine HFC.out.mono ?_
        rintro e w2 ⟨rfl, hbw⟩
        have HO2 := Lib.hid (HO.out.later hbw); have HB2 := Lib.hid (HB.out.trans (hbw.mono HB.out.size))
        clear hbw HX HO HB HOK2 HFC
        go_wp2_with fail
        refine ⟨⟨j + 1, l', hlt, by go_num, Lib.hid ⟨HO2.out, ?_, HB2.out⟩⟩, by simp [intOf]; omega⟩
        rw [HM.out, HT2.out]
    · have hlt2 : ¬ (j : Int) < (n : Int) := by omega
      have HE : Hid (j = n) := by unfold Hid; omega
      go_wp2_with fail
      go_ret
      exact ⟨_, rfl, l', by rw [HQ.out.2.1, HE.out, List.take_of_length_le (by rw [HLN.out]; exact Nat.le_refl _)], HQ.out.1, HQ.out.2.2⟩
set_option maxRecDepth 100000 in
set_option maxHeartbeats 4000000 in
theorem eUntil1_any (tm : Int) (bt : Nat) (p : Pl) (w : World) (ht : w.cell? ⟨bt, 0, none⟩ = some (.int .i64 tm)) (hb : bt < w.heap.size) : Calls Try.prog 27 #[.agg p.arr, .pointer (some ⟨bt, 0, none⟩)] w (SaysL (.bool (decide (p.s.time ≤ tm))) w) := by
  have hp : (w.alloc (.cells p.arr 30)).cell? ⟨w.heap.size, 3, none⟩ = some (.int .i64 p.s.time) := (cell_of_row _ _ 3 _ _ _ (heap_alloc_new w (.cells p.arr 30))).trans rfl
  have ht2 : (w.alloc (.cells p.arr 30)).cell? ⟨bt, 0, none⟩ = some (.int .i64 tm) := (Below.cell (one_new w _) hb).trans ht
  have HN := Lib.hid (one_new w (.cells p.arr 30))
  clear ht
  unfold Pl.arr at *
  go_enter Try.func27, Try.ntmps27
  go_wp2_with fail
  go_ret
  exact ⟨rfl, HN.out⟩
set_option maxRecDepth 100000 in
set_option maxHeartbeats 4000000 in
theorem eUntil_any (A : Option Addr) (n c : Nat) (l : List Pl) (tm : Int) (w : World) (hl : LRow w A n c l) (hn : n ≤ 100000) : Calls Try.prog 11 #[.slice A n c, .int .i64 tm] w (GivesL w (untilS tm (l.map (·.s)))) := by
  have HN := Lib.hid (one_new w (.cells #[.int .i64 tm] 3))
  have hc : (w.alloc (.cells #[.int .i64 tm] 3)).cell? ⟨w.heap.size, 0, none⟩ = some (.int .i64 tm) := (cell_of_row _ _ 0 _ _ _ (heap_alloc_new w _)).trans rfl
  have hs : w.heap.size < (w.alloc (.cells #[.int .i64 tm] 3)).heap.size := by simp
  have HT := Lib.hid (eTaken_any (fun s => decide (s.time ≤ tm)) 27 #[.pointer (some ⟨w.heap.size, 0, none⟩)] A n c l _ (hl.later HN.out) hn (enters_of Try.func27 (by kernel_rfl) rfl) fun y p hb => eUntil1_any tm w.heap.size p y ((Below.cell hb hs).trans hc) (Nat.lt_of_lt_of_le hs hb.size))
  clear hl hc hs
  go_enter Try.func11, Try.ntmps11
  go_wp2_with fail
  refine HT.out.mono ?_
  rintro e w1 ⟨A2, c2, l2, rfl, hm, hr, hb⟩
  have HM := Lib.hid hm; have HR := Lib.hid hr; have HB := Lib.hid (HN.out.trans (hb.mono HN.out.size))
  clear hm hr hb HN HT
  go_wp2_with fail
  go_ret
  exact ⟨A2, c2, l2, rfl, HM.out, HR.out, HB.out⟩
set_option maxRecDepth 100000 in
set_option maxHeartbeats 4000000 in
theorem eWindow1_any (fr tu : Int) (bf bt : Nat) (p : Pl) (w : World) (hf : w.cell? ⟨bf, 0, none⟩ = some (.int .i64 fr)) (ht : w.cell? ⟨bt, 0, none⟩ = some (.int .i64 tu)) (hbf : bf < w.heap.size) (hbt : bt < w.heap.size) :
    Calls Try.prog 29 #[.agg p.arr, .pointer (some ⟨bf, 0, none⟩), .pointer (some ⟨bt, 0, none⟩)] w (SaysL (.bool (decide (fr ≤ p.s.time) && decide (p.s.time ≤ tu))) w) := by
  have hp : (w.alloc (.cells p.arr 30)).cell? ⟨w.heap.size, 3, none⟩ = some (.int .i64 p.s.time) := (cell_of_row _ _ 3 _ _ _ (heap_alloc_new w (.cells p.arr 30))).trans rfl
  have hf2 : (w.alloc (.cells p.arr 30)).cell? ⟨bf, 0, none⟩ = some (.int .i64 fr) := (Below.cell (one_new w _) hbf).trans hf
  have ht2 : (w.alloc (.cells p.arr 30)).cell? ⟨bt, 0, none⟩ = some (.int .i64 tu) := (Below.cell (one_new w _) hbt).trans ht
  have HN := Lib.hid (one_new w (.cells p.arr 30))
  clear ht hf
  unfold Pl.arr at *
  go_enter Try.func29, Try.ntmps29
  by_cases g1 : fr ≤ p.s.time
  · have d1 : decide (fr ≤ p.s.time) = true := decide_eq_true g1
    by_cases g2 : p.s.time ≤ tu
    · have d2 : decide (p.s.time ≤ tu) = true := decide_eq_true g2
      rw [d1, d2]
      go_wp2_with fail
      go_ret
      exact ⟨rfl, HN.out⟩
    · have d2 : decide (p.s.time ≤ tu) = false := decide_eq_false g2
      rw [d1, d2]
      go_wp2_with fail
      go_ret
      exact ⟨rfl, HN.out⟩
  · have d1 : decide (fr ≤ p.s.time) = false := decide_eq_false g1
    rw [d1]
    go_wp2_with fail
    go_ret
    exact ⟨rfl, HN.out⟩
set_option maxRecDepth 100000 in
set_option maxHeartbeats 4000000 in
theorem eWindow_any (A : Option Addr) (n c : Nat) (l : List Pl) (fr tu : Int) (w : World) (hl : LRow w A n c l) (hn : n ≤ 100000) : Calls Try.prog 13 #[.slice A n c, .int .i64 fr, .int .i64 tu] w (GivesL w (windowS fr tu (l.map (·.s)))) := by
  have HN1 := one_new w (.cells #[.int .i64 fr] 3)
  have HN2 := one_new (w.alloc (.cells #[.int .i64 fr] 3)) (.cells #[.int .i64 tu] 3)
  have hs0 : (w.alloc (.cells #[.int .i64 fr] 3)).heap.size = w.heap.size + 1 := by simp
  have HN := Lib.hid (HN1.trans (HN2.mono HN1.size))
  have hc2 : ((w.alloc (.cells #[.int .i64 fr] 3)).alloc (.cells #[.int .i64 tu] 3)).cell? ⟨w.heap.size + 1, 0, none⟩ = some (.int .i64 tu) := (cell_of_row _ _ 0 _ _ _ (by rw [← hs0]; exact heap_alloc_new _ _)).trans rfl
  have hc1 : ((w.alloc (.cells #[.int .i64 fr] 3)).alloc (.cells #[.int .i64 tu] 3)).cell? ⟨w.heap.size, 0, none⟩ = some (.int .i64 fr) := (Below.cell HN2 (by rw [hs0]; exact Nat.lt_succ_self _)).trans ((cell_of_row _ _ 0 _ _ _ (heap_alloc_new w _)).trans rfl)
  have hs : w.heap.size + 1 < ((w.alloc (.cells #[.int .i64 fr] 3)).alloc (.cells #[.int .i64 tu] 3)).heap.size := by simp
  have HT := Lib.hid (eTaken_any (fun s => decide (fr ≤ s.time) && decide (s.time ≤ tu)) 29 #[.pointer (some ⟨w.heap.size, 0, none⟩), .pointer (some ⟨w.heap.size + 1, 0, none⟩)] A n c l _ (hl.later HN.out) hn (enters_of Try.func29 (by kernel_rfl) rfl) fun y p hb =>
    eWindow1_any fr tu w.heap.size (w.heap.size + 1) p y ((Below.cell hb (Nat.lt_of_succ_lt hs)).trans hc1) ((Below.cell hb hs).trans hc2) (Nat.lt_of_lt_of_le (Nat.lt_of_succ_lt hs) hb.size) (Nat.lt_of_lt_of_le hs hb.size))
  clear hl hc1 hc2 hs hs0 HN1 HN2
  go_enter Try.func13, Try.ntmps13
  go_wp2_with fail
  refine HT.out.mono ?_
  rintro e w1 ⟨A2, c2, l2, rfl, hm, hr, hb⟩
  have HM := Lib.hid hm; have HR := Lib.hid hr; have HB := Lib.hid (HN.out.trans (hb.mono HN.out.size))
  clear hm hr hb HN HT
  go_wp2_with fail
  go_ret
  exact ⟨A2, c2, l2, rfl, HM.out, HR.out, HB.out⟩
end Go.Proofs.Ytdeojmgcofakeaa
/- The walks of cmp.Or, cmp.Compare, strings.Compare. -/
namespace Go.Proofs.Ytdeojmgcofakeaa
open Go.RowKit
/-- The first number that is not zero. -/
def firstNZ : List Int → Int
  | [] => 0
  | x :: l => if x = 0 then firstNZ l else x
theorem firstNZ_drop (l : List Int) (j : Nat) (h : ∀ i, i < j → l.getD i 0 = 0) (hj : j ≤ l.length) : firstNZ l = firstNZ (l.drop j) := by
  induction j with
  | zero => rfl
  | succ j ih =>
    rw [ih (fun i hi => h i (by omega)) (by omega), List.drop_eq_getElem_cons (show j < l.length by omega)]
    have h0 := h j (by omega)
    rw [List.getD_eq_getElem?_getD, List.getElem?_eq_getElem (by omega)] at h0
    exact if_pos h0
set_option maxRecDepth 100000 in
set_option maxHeartbeats 1000000 in
theorem or_any (A : Option Addr) (n c : Nat) (l : List Int) (w : World) (hl : IRow w A n c l) (hn : n ≤ 1000000) :
    Calls Try.prog 43 #[.slice A n c] w fun e w' => e = .returned (.int .i64 (firstNZ l)) ∧ w' = w := by
  have HL := Lib.hid hl; have HLN := Lib.hid hl.len
  clear hl
  go_enter Try.func43, Try.ntmps43
  go_wp2
  go_loopw [8] (fun i wr => ∃ j : Nat, j ≤ n ∧ i = .int .i64 j ∧ wr = w ∧ Hid (∀ i, i < j → l.getD i 0 = 0)) (fun i _ => n - (intOf i).toNat)
  case atStart => exact ⟨0, Nat.zero_le _, rfl, rfl, Lib.hid fun _ h => absurd h (Nat.not_lt_zero _)⟩
  case round =>
    obtain ⟨j, hj, rfl, rfl, HQ⟩ := hrel
    by_cases hlt : j < n
    · obtain ⟨ab, off, hA, hc0⟩ := HL.out.cell j hlt
      subst hA
      by_cases hz : l.getD j 0 = 0
      · rw [hz] at hc0
        have HZ := Lib.hid hz; clear hz
        go_wp2
        refine ⟨⟨j + 1, hlt, by go_num, by simp, Lib.hid fun i hi => ?_⟩, by simp [intOf]; omega⟩
        by_cases h : i = j
        · rw [h]; exact HZ.out
        · exact HQ.out i (by omega)
      · have HZ : Hid (firstNZ l = l.getD j 0) := Lib.hid (by
          rw [firstNZ_drop l j HQ.out (by have := HLN.out; omega), List.drop_eq_getElem_cons (show j < l.length by have := HLN.out; omega)]
          have e : l.getD j 0 = l[j]'(by have := HLN.out; omega) := by rw [List.getD_eq_getElem?_getD, List.getElem?_eq_getElem (by have := HLN.out; omega)]; rfl
          rw [e] at hz ⊢
          show (if l[j]'_ = 0 then _ else _) = _
          rw [if_neg hz])
        generalize l.getD j 0 = x at hc0 HZ hz
        have hx : (x != 0) = true := by simpa using hz
        clear hz
        go_wp2
        go_ret
        exact ⟨by rw [HZ.out]; rfl, rfl⟩
    · have HE : Hid (j = n) := by unfold Hid; omega
      go_wp2
      go_ret
      refine ⟨?_, rfl⟩
      rw [firstNZ_drop l j HQ.out (by have := HLN.out; omega), List.drop_eq_nil_of_le (by have := HLN.out; have := HE.out; omega)]
      rfl
set_option maxHeartbeats 1000000 in
theorem cmpInt_any (x y : Int) (w : World) :
    Calls Try.prog 44 #[.int .i64 x, .int .i64 y] w fun e w' => e = .returned (.int .i64 (Lib.compareInt x y)) ∧ w' = w := by
  go_enter Try.func44, Try.ntmps44
  go_wp2
  all_goals (go_ret; refine ⟨?_, rfl⟩; unfold Lib.compareInt; (repeat' split) <;> first | rfl | (exfalso; omega))
end Go.Proofs.Ytdeojmgcofakeaa
/- The walk of store's compare. -/
namespace Go.Proofs.Ytdeojmgcofakeaa
open Go.RowKit
/-- Blocks and draws may have come; nothing has turned. -/
def Laid (a b : World) : Prop := Below a.heap.size a b ∧ a.drawn ≤ b.drawn
theorem Laid.refl (a : World) : Laid a a := ⟨Below.refl _ _, Nat.le_refl _⟩
theorem Laid.trans {a b c : World} (h : Laid a b) (k : Laid b c) : Laid a c := ⟨h.1.trans (k.1.mono h.1.size), Nat.le_trans h.2 k.2⟩
theorem Laid.alloc (a : World) (o : Obj) : Laid a (a.alloc o) := ⟨one_new a o, Nat.le_refl _⟩
theorem Laid.drew (a : World) : Laid a a.drew := ⟨(Below.refl _ _).drew, Nat.le_succ _⟩
end Go.Proofs.Ytdeojmgcofakeaa
/- The walk of epoch's compare. -/
namespace Go.Proofs.Ytdeojmgcofakeaa
open Go.RowKit
/-- The order of statements by time, author, number: less than 0, 0, or more. -/
def cmpE (a b : Stm) : Int := firstNZ [Lib.compareInt a.time b.time, Lib.compareInt a.author b.author, Lib.compareInt a.number b.number]
theorem compareInt_cases (x y : Int) : (x < y ∧ Lib.compareInt x y = -1) ∨ (x = y ∧ Lib.compareInt x y = 0) ∨ (y < x ∧ Lib.compareInt x y = 1) := by
  unfold Lib.compareInt
  (repeat' split) <;> omega
theorem cmpE_neg (a b : Stm) : decide (cmpE a b < 0) = beforeT a b := by
  rw [Bool.eq_iff_iff, decide_eq_true_eq, beforeT_iff]
  unfold cmpE firstNZ firstNZ firstNZ firstNZ
  rcases compareInt_cases a.time b.time with ⟨h, e⟩ | ⟨h, e⟩ | ⟨h, e⟩
  · rw [e, if_neg (by decide)]; omega
  · rw [e, if_pos rfl]
    rcases compareInt_cases a.author b.author with ⟨k, f⟩ | ⟨k, f⟩ | ⟨k, f⟩
    · rw [f, if_neg (by decide)]; omega
    · rw [f, if_pos rfl]
      rcases compareInt_cases a.number b.number with ⟨r, g⟩ | ⟨r, g⟩ | ⟨r, g⟩
      · rw [g, if_neg (by decide)]; omega
      · rw [g, if_pos rfl]; omega
      · rw [g, if_neg (by decide)]; omega
    · rw [f, if_neg (by decide)]; omega
  · rw [e, if_neg (by decide)]; omega
set_option maxRecDepth 100000 in
set_option maxHeartbeats 1000000 in
theorem compareE_any (s : Stm) (A : Option Addr) (n c : Nat) (B : Option Addr) (m k : Nat) (o : Stm) (A2 : Option Addr) (n2 c2 : Nat) (B2 : Option Addr) (m2 k2 : Nat) (w : World) :
    Calls Try.prog 32 #[stmV s A n c B m k, stmV o A2 n2 c2 B2 m2 k2] w fun e w' => e = .returned (.int .i64 (cmpE s o)) ∧ Laid w w' := by
  obtain ⟨author, number, prev, time, kind, a, b, cc, list, pins, body, key, dig⟩ := s
  obtain ⟨y0, y1, y2, y3, y4, y5, y6, y7, y8, y9, y10, y11, y12⟩ := o
  unfold stmV cmpE
  simp only
  go_enter Try.func32, Try.ntmps32
  go_wp2_with fail
  have HB : Hid (Laid w (((w.alloc (.cells #[.int .i64 author, .int .i64 number, .string prev, .int .i64 time, .int .i64 kind, .int .i64 a, .int .i64 b, .int .i64 cc, .slice A n c, .slice B m k, .string body, .int .i64 key, .string dig] 30)).alloc (.cells #[.int .i64 y0, .int .i64 y1, .string y2, .int .i64 y3, .int .i64 y4, .int .i64 y5, .int .i64 y6, .int .i64 y7, .slice A2 n2 c2, .slice B2 m2 k2, .string y10, .int .i64 y11, .string y12] 30)).drew)) := Lib.hid (((Laid.alloc w _).trans (Laid.alloc _ _)).trans (Laid.drew _))
  have HX : Hid ((((w.alloc (.cells #[.int .i64 author, .int .i64 number, .string prev, .int .i64 time, .int .i64 kind, .int .i64 a, .int .i64 b, .int .i64 cc, .slice A n c, .slice B m k, .string body, .int .i64 key, .string dig] 30)).alloc (.cells #[.int .i64 y0, .int .i64 y1, .string y2, .int .i64 y3, .int .i64 y4, .int .i64 y5, .int .i64 y6, .int .i64 y7, .slice A2 n2 c2, .slice B2 m2 k2, .string y10, .int .i64 y11, .string y12] 30)).drew).heap[w.heap.size]? = some (.cells #[.int .i64 author, .int .i64 number, .string prev, .int .i64 time, .int .i64 kind, .int .i64 a, .int .i64 b, .int .i64 cc, .slice A n c, .slice B m k, .string body, .int .i64 key, .string dig] 30 (0, 0))) := Lib.hid ((Below.heap_alloc _ _ _ (by simp)).trans (heap_alloc_new _ _))
  have HY : Hid ((((w.alloc (.cells #[.int .i64 author, .int .i64 number, .string prev, .int .i64 time, .int .i64 kind, .int .i64 a, .int .i64 b, .int .i64 cc, .slice A n c, .slice B m k, .string body, .int .i64 key, .string dig] 30)).alloc (.cells #[.int .i64 y0, .int .i64 y1, .string y2, .int .i64 y3, .int .i64 y4, .int .i64 y5, .int .i64 y6, .int .i64 y7, .slice A2 n2 c2, .slice B2 m2 k2, .string y10, .int .i64 y11, .string y12] 30)).drew).heap[w.heap.size + 1]? = some (.cells #[.int .i64 y0, .int .i64 y1, .string y2, .int .i64 y3, .int .i64 y4, .int .i64 y5, .int .i64 y6, .int .i64 y7, .slice A2 n2 c2, .slice B2 m2 k2, .string y10, .int .i64 y11, .string y12] 30 (0, 0))) := Lib.hid (by
    have h := heap_alloc_new (w.alloc (.cells #[.int .i64 author, .int .i64 number, .string prev, .int .i64 time, .int .i64 kind, .int .i64 a, .int .i64 b, .int .i64 cc, .slice A n c, .slice B m k, .string body, .int .i64 key, .string dig] 30)) (.cells #[.int .i64 y0, .int .i64 y1, .string y2, .int .i64 y3, .int .i64 y4, .int .i64 y5, .int .i64 y6, .int .i64 y7, .slice A2 n2 c2, .slice B2 m2 k2, .string y10, .int .i64 y11, .string y12] 30)
    rw [show (w.alloc (.cells #[.int .i64 author, .int .i64 number, .string prev, .int .i64 time, .int .i64 kind, .int .i64 a, .int .i64 b, .int .i64 cc, .slice A n c, .slice B m k, .string body, .int .i64 key, .string dig] 30)).heap.size = w.heap.size + 1 by simp] at h
    exact h)
  refine wp_region_grow (by kernel_rfl) Laid Laid.refl (fun _ _ _ => Laid.trans) [17] [([0, 1, 2, 3, 5, 6, 7, 8, 10, 11, 12, 13], 4), ([], 9), ([], 14), ([], 15), ([], 16)] (by kernel_rfl) (by kernel_rfl) (by kernel_rfl) ?_
  simp only [List.map_cons, List.map_nil, pick, List.getD_cons_zero, List.getD_cons_succ]
  generalize ((w.alloc (.cells #[.int .i64 author, .int .i64 number, .string prev, .int .i64 time, .int .i64 kind, .int .i64 a, .int .i64 b, .int .i64 cc, .slice A n c, .slice B m k, .string body, .int .i64 key, .string dig] 30)).alloc (.cells #[.int .i64 y0, .int .i64 y1, .string y2, .int .i64 y3, .int .i64 y4, .int .i64 y5, .int .i64 y6, .int .i64 y7, .slice A2 n2 c2, .slice B2 m2 k2, .string y10, .int .i64 y11, .string y12] 30)).drew = w1 at HB HX HY ⊢
  have hlx : w.heap.size < w1.heap.size := (Array.getElem?_eq_some_iff.1 HX.out).1
  have hly : w.heap.size + 1 < w1.heap.size := (Array.getElem?_eq_some_iff.1 HY.out).1
  obtain ⟨hf0, hf1, hf2, hf3, hf4, hf5, hf6, hf7, hf8, hf9, hf10, hf11, hf12⟩ := stm_futs (F := Laid) Laid.refl (s := ⟨author, number, prev, time, kind, a, b, cc, list, pins, body, key, dig⟩) (W := w1) (fun w' h => h.1.block _ hlx) HX.out
  obtain ⟨hg0, hg1, hg2, hg3, hg4, hg5, hg6, hg7, hg8, hg9, hg10, hg11, hg12⟩ := stm_futs (F := Laid) Laid.refl (s := ⟨y0, y1, y2, y3, y4, y5, y6, y7, y8, y9, y10, y11, y12⟩) (W := w1) (fun w' h => h.1.block _ hly) HY.out
  refine wpGrow_cons ?_
  repeat (go_big_quiet_step (fail))
  refine wpQuiet_nil ?_
  clear hf0 hf1 hf2 hf3 hf4 hf5 hf6 hf7 hf8 hf9 hf10 hf11 hf12 hg0 hg1 hg2 hg3 hg4 hg5 hg6 hg7 hg8 hg9 hg10 hg11 hg12 HX HY hlx hly
  go_wp2_with fail
  refine (cmpInt_any _ _ _).mono ?_
  rintro e w2 ⟨rfl, rfl⟩
  go_wp2_with fail
  refine pieceEnd_normal ⟨Laid.refl _, ?_⟩
  refine wpGrow_cons ?_
  refine wpQuiet_nil ?_
  go_wp2_with fail
  refine (cmpInt_any _ _ _).mono ?_
  rintro e w3 ⟨rfl, rfl⟩
  go_wp2_with fail
  refine pieceEnd_normal ⟨Laid.refl _, ?_⟩
  refine wpGrow_cons ?_
  refine wpQuiet_nil ?_
  go_wp2_with fail
  refine (cmpInt_any _ _ _).mono ?_
  rintro e w4 ⟨rfl, rfl⟩
  go_wp2_with fail
  refine pieceEnd_normal ⟨Laid.refl _, ?_⟩
  generalize hr1 : Lib.compareInt time y3 = r1
  generalize hr2 : Lib.compareInt author y0 = r2
  generalize hr3 : Lib.compareInt number y1 = r3
  have HR := Lib.hid (And.intro hr1 (And.intro hr2 hr3)); clear hr1 hr2 hr3
  refine wpGrow_cons ?_
  refine wpQuiet_nil ?_
  go_wp2_with fail
  refine pieceEnd_normal ⟨Laid.alloc _ _, ?_⟩
  have HI := Lib.hid (show IRow (w4.alloc (.cells #[.int .i64 r1, .int .i64 r2, .int .i64 r3] 3)) (some ⟨w4.heap.size, 0, none⟩) 3 3 [r1, r2, r3] from Row.of_block (heap_alloc_new _ _) rfl)
  have HB2 := Lib.hid (HB.out.trans (Laid.alloc w4 (.cells #[.int .i64 r1, .int .i64 r2, .int .i64 r3] 3)))
  refine wpGrow_cons ?_
  refine wpQuiet_nil ?_
  go_wp2_with fail
  refine (or_any _ _ _ _ _ HI.out (by omega)).mono ?_
  rintro e w5 ⟨rfl, rfl⟩
  go_wp2_with fail
  refine pieceEnd_normal ⟨Laid.refl _, ?_⟩
  refine wpGrow_nil ?_
  repeat (go_big_quiet_step (fail))
  refine wpQuiet_nil ?_
  go_wp2_with fail
  go_ret
  exact ⟨by rw [HR.out.1, HR.out.2.1, HR.out.2.2]; rfl, HB2.out⟩
end Go.Proofs.Ytdeojmgcofakeaa
