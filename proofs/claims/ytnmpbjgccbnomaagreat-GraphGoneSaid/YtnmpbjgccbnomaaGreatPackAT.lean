import Derived.Test.YtnmpbjgccbnomaaGreatPackAR
import Derived.Test.YtnmpbjgccbnomaaGreatDiceGiveP
import Derived.Test.YtnmpbjgccbnomaaGreatVOfP
/- The walk of the dice's Chain. -/
namespace Go.Proofs.YtnmpbjgccbnomaaGreat
open Go.RowKit
/-- Its lists lie in blocks from B on. -/
def Hi (B : Nat) (p : Pl) : Prop := (∀ ad, p.A = some ad → B ≤ ad.block) ∧ (∀ ad, p.B = some ad → B ≤ ad.block)
theorem Hi.mono {B C : Nat} {p : Pl} (h : Hi B p) (hc : C ≤ B) : Hi C p := ⟨fun ad e => Nat.le_trans hc (h.1 ad e), fun ad e => Nat.le_trans hc (h.2 ad e)⟩
theorem PlOk.butD {D B : Nat} {w w' : World} {p : Pl} (h : PlOk w p) (hb : But D w w') (hi : Hi B p) (hD : D < B) : PlOk w' p :=
  ⟨Row.but h.1 hb fun ad hA _ => by have := hi.1 ad hA; omega, Row.but h.2 hb fun ad hA _ => by have := hi.2 ad hA; omega⟩
/-- Small statements in a slice, and lists, of the call's own. -/
structure LGot (w : World) (B : Nat) (v : Value) (l : List Pl) : Prop where
  own : LOwn w B v l
  hi : ∀ p ∈ l, Hi B p
  small : ∀ p ∈ l, Small p.s
theorem LGot.nil (w : World) (B : Nat) : LGot w B (.slice none 0 0) [] := ⟨LOwn.nil _ _, fun _ h => (nomatch h), fun _ h => (nomatch h)⟩
theorem LGot.but {w w' : World} {B D : Nat} {v : Value} {l : List Pl} (h : LGot w B v l) (hb : But D w w') (hD : D < B) : LGot w' B v l :=
  ⟨⟨own_but h.own.own hb hD, fun p hp => ⟨(h.own.ok p hp).1.butD hb (h.hi p hp) hD, (h.own.ok p hp).2⟩⟩, h.hi, h.small⟩
/-- Within a round: the dice are there, and nothing else that was there has turned. -/
structure Rnd (L D : Nat) (t : List Int) (w x : World) : Prop where
  but : But D w x
  dice : ∃ k, DiceAt x L D t k
theorem Rnd.later {L D : Nat} {t : List Int} {w x y : World} (h : Rnd L D t w x) (hb : Later x y) : Rnd L D t w y := ⟨h.but.trans (But.of hb), by obtain ⟨k, hk⟩ := h.dice; exact ⟨k, hk.later hb⟩⟩
theorem Rnd.gave {L D : Nat} {t : List Int} {w x y : World} (h : Rnd L D t w x) (hg : Gave L D t x y) : Rnd L D t w y := ⟨h.but.trans hg.2, hg.1⟩
theorem Rnd.lt {L D : Nat} {t : List Int} {w x : World} (h : Rnd L D t w x) : D < x.heap.size := by obtain ⟨k, hk⟩ := h.dice; exact hk.lt
theorem Rnd.row {L D : Nat} {t : List Int} {w x : World} (h : Rnd L D t w x) (g : Nat) (hg : w.heap.size ≤ g) (hD : D < w.heap.size) (cs : Array Value) : Rnd L D t w (x.setRow g cs) := by
  obtain ⟨k, hk⟩ := h.dice
  exact ⟨⟨h.but.os, h.but.tape, h.but.output, by rw [setRow_size]; exact h.but.size, fun i hi hne => (setRow_other x g i cs (by omega)).trans (h.but.block i hi hne)⟩, k, hk.but (But.of_row _ _ _) (by omega) (by have := hk.low; omega)⟩
theorem nextP_small {au : Int} {l : List Stm} {s : Stm} (h : Small s) : Small (nextP au l s).1 := by
  have hn : Small noStm := ⟨by decide, by decide, by decide, by decide, by decide, by decide⟩
  unfold nextP
  split
  · exact hn
  · split
    · exact hn
    · split
      · exact hn
      · split
        · exact seal_small7 (draft_small h)
        · exact hn
/-- The dice's statement. -/
theorem dstmP_g (L D : Nat) (t : List Int) (author time : Int) (w : World) (h : ∃ k, DiceAt w L D t k) (ha : 0 ≤ author ∧ author ≤ 1000) (ht : 0 ≤ time ∧ time ≤ 1000) :
    Calls Tryz.prog 73 #[.pointer (some ⟨D, 0, none⟩), .int .i64 author, .int .i64 time] w fun e w' => ∃ p : Pl, e = .returned (.agg p.arr) ∧ PlOk w' p ∧ Hi w.heap.size p ∧ Small p.s ∧ Gave L D t w w' ∧ p.s.author = author ∧ p.s.time = time ∧ p.s.number = 0 := by
  refine (dstm_t L D t author time w h ha ht).mono ?_
  rintro e w' ⟨s, A, n, c, B, m, k, he, h1, h2, h3, h4, h5, h6, h7, h8, h9, h10, h11, h12⟩
  exact ⟨⟨s, A, n, c, B, m, k⟩, he, ⟨h1, h2⟩, ⟨fun ad e => (h3 ad e).1, fun ad e => (h4 ad e).1⟩, ⟨by show s.prev.size ≤ _; omega, by show s.list.length ≤ _; omega, by show s.pins.length ≤ _; omega, by show (pinsBs s.pins).length ≤ _; omega, by show s.body.size ≤ _; omega, by show s.dig.size ≤ _; omega⟩, h11, h12⟩
/-- Their times lie from 0 to b. -/
def TimL (b : Int) (l : List Pl) : Prop := ∀ p ∈ l, 0 ≤ p.s.time ∧ p.s.time ≤ b
theorem TimL.mono {b c : Int} {l : List Pl} (h : TimL b l) (hc : b ≤ c) : TimL c l := fun p hp => ⟨(h p hp).1, by have := (h p hp).2; omega⟩
theorem TimL.app {b : Int} {l m : List Pl} (h : TimL b l) (k : TimL b m) : TimL b (l ++ m) := fun p hp => by
  rcases List.mem_append.1 hp with hp | hp
  · exact h p hp
  · exact k p hp
theorem TimL.one {b : Int} {p : Pl} (h : 0 ≤ p.s.time ∧ p.s.time ≤ b) : TimL b [p] := fun q hq => by rw [List.mem_singleton.1 hq]; exact h
theorem nextP_time {au : Int} {l : List Stm} {s : Stm} : (nextP au l s).2 = 0 → (nextP au l s).1.time = s.time := by
  unfold nextP
  split
  · intro h; exact absurd h (by decide)
  · split
    · intro h; exact absurd h (by decide)
    · split
      · intro h; exact absurd h (by decide)
      · split
        · intro _; show (draftR au l s).time = s.time; unfold draftR; split <;> rfl
        · rename_i hne; intro h; exact absurd h hne
def resignPl (au time : Int) : Pl := ⟨⟨au, 0, ⟨#[]⟩, time, 3, 0, 0, 0, [], [], ⟨#[]⟩, 0, ⟨#[]⟩⟩, none, 0, 0, none, 0, 0⟩
theorem resign_ok (w : World) (au time : Int) : PlOk w (resignPl au time) := ⟨Row.nilRow _ _, Row.nilRow _ _⟩
theorem resign_hi (B : Nat) (au time : Int) : Hi B (resignPl au time) := ⟨fun _ h => (nomatch h), fun _ h => (nomatch h)⟩
theorem resign_small (au time : Int) : Small (resignPl au time).s := ⟨Nat.zero_le _, Nat.zero_le _, Nat.zero_le _, by show (pinsBs []).length ≤ _; decide, Nat.zero_le _, Nat.zero_le _⟩
set_option maxRecDepth 100000 in
set_option maxHeartbeats 4000000 in
theorem chain_g (L D : Nat) (t : List Int) (au : Int) (most : Nat) (w : World) (h : ∃ k, DiceAt w L D t k) (ha : 0 ≤ au ∧ au ≤ 1000) (hm : most ≤ 20) :
    Calls Tryz.prog 47 #[.pointer (some ⟨D, 0, none⟩), .int .i64 au, .int .i64 most] w fun e w' => ∃ v l, e = .returned v ∧ LGot w' w.heap.size v l ∧ l.length ≤ most ∧ Gave L D t w w' ∧ TimL (10 + 20 * (most : Int)) l := by
  have hDw : D < w.heap.size := by obtain ⟨k, hk⟩ := h; exact hk.lt
  have HR0 : Hid (Rnd L D t w w) := Lib.hid ⟨But.refl _ _, h⟩
  clear h
  go_enter Tryz.func47, Tryz.ntmps47
  go_wp2_with fail
  refine (next_g L D t 10 w HR0.out.dice (by omega) (by omega)).mono ?_
  rintro e w1 ⟨T0, rfl, hT0, hT1, hg⟩
  have HR1 := Lib.hid (HR0.out.gave hg)
  clear hg HR0
  go_wp2_with fail
  refine (next_g L D t ((most : Int) + 1) w1 HR1.out.dice (by omega) (by omega)).mono ?_
  rintro e w2 ⟨N0, rfl, hN0, hN1, hg⟩
  have HR2 := Lib.hid (HR1.out.gave hg)
  clear hg HR1
  obtain ⟨N, rfl⟩ : ∃ N : Nat, N0 = (N : Int) := ⟨N0.toNat, by omega⟩
  go_wp2_with fail
  go_loopw [7, 8, 9] (fun v i8 i9 wr => ∃ (m : Nat) (tm : Int) (l' : List Pl), m ≤ N ∧ i9 = .int .i64 m ∧ i8 = .int .i64 tm ∧ (0 ≤ tm ∧ tm + 20 * (m : Int) ≤ 10 + 20 * (N : Int)) ∧ l'.length + m ≤ N ∧ Hid (TimL (10 + 20 * (N : Int)) l') ∧ Hid (LGot wr w.heap.size v l' ∧ Rnd L D t w wr)) (fun _ _ i9 _ => (intOf i9).toNat)
  case atStart => exact ⟨N, T0, [], Nat.le_refl _, rfl, rfl, ⟨by omega, by omega⟩, by simp, Lib.hid (fun _ h => (nomatch h)), Lib.hid ⟨LGot.nil _ _, HR2.out⟩⟩
  case round =>
    obtain ⟨m, tm, l', hmN, rfl, rfl, htm, hlm, HTL, HQ⟩ := hrel
    clear HR2
    have htm0 := htm.1; have htm1 := htm.2
    obtain ⟨A1, c1, hv, -⟩ := HQ.out.1.own.row
    subst hv
    by_cases hm0 : 0 < m
    · have hm2 : (0 : Int) < (m : Int) := by omega
      have hwr : w.heap.size ≤ wr.heap.size := HQ.out.2.but.size
      have HW : Hid (Rnd L D t wr wr) := Lib.hid ⟨But.refl _ _, HQ.out.2.dice⟩
      have HO4 : Hid (Row (wr.alloc (.cells #[.int .i64 1, .int .i64 0, .int .i64 5, .int .i64 20] 3)) (some ⟨wr.heap.size, 0, none⟩) 4 4 1 (intsV [1, 0, 5, 20])) := Lib.hid (Row.of_block (heap_alloc_new _ _) rfl)
      have HR1 := Lib.hid (HW.out.later (one_new wr (.cells #[.int .i64 1, .int .i64 0, .int .i64 5, .int .i64 20] 3)))
      go_wp2_with fail
      refine (of_g L D t (some ⟨wr.heap.size, 0, none⟩) 4 4 [1, 0, 5, 20] _ HR1.out.dice HO4.out (fun ad e => by injection e with e; have := HW.out.lt; rw [← e]; show wr.heap.size ≠ D; omega) (by omega) (by omega)).mono ?_
      rintro e x1 ⟨dv, rfl, hdv, hg⟩
      have hdv0 : 0 ≤ dv ∧ dv ≤ 20 := by
        simp only [List.mem_cons, List.not_mem_nil, or_false] at hdv
        omega
      have hdv1 := hdv0.1; have hdv2 := hdv0.2
      have HR2 := Lib.hid (HR1.out.gave hg)
      clear hg HR1 HO4 hdv hdv0
      have hs0 : 0 ≤ tm + dv := by omega
      have hs1 : tm + dv ≤ 1000 := by omega
      have hs2 : tm + dv ≤ 10 + 20 * (N : Int) := by omega
      go_wp2_with fail
      generalize hT : tm + dv = T at *
      refine (dstmP_g L D t au T x1 HR2.out.dice ha ⟨hs0, hs1⟩).mono ?_
      rintro e x2 ⟨p, rfl, hpo, hhi, hsm, hg, -, hpt, -⟩
      have HPT := Lib.hid hpt; clear hpt
      have HR3 := Lib.hid (HR2.out.gave hg)
      have HPO := Lib.hid hpo; have HPS := Lib.hid hsm
      have HHI := Lib.hid (hhi.mono HR2.out.but.size)
      clear hpo hhi hsm hg HR2
      go_upto_region 8 with (refine wpList_store_new rfl 48 (.tmp 10) (.tmp 31) rfl 48 _ p.arr rfl rfl p.info rfl p.one ?_)
      have HNW := Lib.hid (one_new x2 (.cells p.arr 48))
      have HG : Hid ((x2.alloc (.cells p.arr 48)).heap[x2.heap.size]? = some (.cells p.arr 48 (0, 0))) := Lib.hid (heap_alloc_new _ _)
      have HR4 := Lib.hid (HR3.out.later HNW.out)
      have hgw : wr.heap.size ≤ x2.heap.size := HR3.out.but.size
      have hDr : D < wr.heap.size := HW.out.lt
      replace HPO := Lib.hid (HPO.out.later HNW.out)
      clear HNW HR3
      generalize x2.alloc (.cells p.arr 48) = x3 at *
      generalize x2.heap.size = g at *
      by_cases hm1 : m = 1
      · have b1 : ((m : Int) == 1) = true := by rw [hm1]; rfl
        have b2 : (m == 1) = true := by rw [hm1]; rfl
        go_wp2_with fail
        refine (one_g L D t 6 x3 HR4.out.dice (by omega) (by omega)).mono ?_
        rintro e x4 ⟨rb, rfl, hg⟩
        have HR5 := Lib.hid (HR4.out.gave hg)
        have HG5 : Hid (x4.heap[g]? = some (.cells p.arr 48 (0, 0))) := Lib.hid ((hg.2.block g (Array.getElem?_eq_some_iff.1 HG.out).1 (by omega)).trans HG.out)
        replace HPO := Lib.hid (HPO.out.butD hg.2 HHI.out hDr)
        clear hg HR4 HG
        cases rb
        · go_upto_region 10 with fail
          clear b1 b2
          have HLW := Lib.hid (HQ.out.1.but HR5.out.but hDw)
          obtain ⟨A7, c7, hv7, hr7⟩ := HLW.out.own.row
          injection hv7 with hv7 _ hc7
          subst hv7 hc7
          have HLR := Lib.hid hr7; clear hr7
          have HRNX := Lib.hid (nextP_any au A1 l'.length c1 l' p x4 HLR.out (by omega) HLW.out.small HPO.out HPS.out)
          have HSN := Lib.hid (nextP_small (au := au) (l := l'.map (·.s)) HPS.out)
          have HNT := Lib.hid (nextP_time (au := au) (l := l'.map (·.s)) (s := p.s))
          generalize nextP au (l'.map (·.s)) p.s = NX at HRNX HSN HNT
          clear HLR
          go_wp2_with (refine wpList_load_row rfl 48 (.tmp 10) rfl g rfl 48 p.arr (0, 0) _ HG5.out Tryz.underlying48 rfl p.info ?_)
          refine HRNX.out.mono ?_
          clear HRNX
          rintro e y1 ⟨q, rfl, hqs, hqo, hna, hnb, hb⟩
          have HS1 := Lib.hid (HR5.out.later hb)
          have HQS : Hid (Small q.s) := Lib.hid (by rw [hqs]; exact HSN.out)
          have HQT : Hid (NX.2 = 0 → q.s.time = T) := Lib.hid fun h => by rw [hqs, HNT.out h, HPT.out]
          have HQO := Lib.hid hqo
          have hxw : w.heap.size ≤ x4.heap.size := Nat.le_trans hwr HR5.out.but.size
          have HQH : Hid (Hi w.heap.size q) := Lib.hid ⟨fun ad e => Nat.le_trans hxw (hna ad e), fun ad e => Nat.le_trans hxw (hnb ad e)⟩
          have HCL := Lib.hid (clear_new (q := q) hna hnb (own_lt HLW.out.own.own))
          have HL1 : Hid (LGot y1 w.heap.size (.slice A1 l'.length c1) l') := Lib.hid (HLW.out.but (But.of (D := D) hb) hDw)
          clear hqs hqo hna hnb hb HLW HG5 HPO HHI HPS HR5 HSN HNT HPT
          go_upto_region 11 with (refine wpList_store_new rfl 48 (.tmp 11) (.tmp 46) rfl 48 _ q.arr rfl rfl q.info rfl q.one ?_)
          have HNW := Lib.hid (one_new y1 (.cells q.arr 48))
          have HG8 : Hid ((y1.alloc (.cells q.arr 48)).heap[y1.heap.size]? = some (.cells q.arr 48 (0, 0))) := Lib.hid (heap_alloc_new _ _)
          have HS2 := Lib.hid (HS1.out.later HNW.out)
          have HL2 : Hid (LGot (y1.alloc (.cells q.arr 48)) w.heap.size (.slice A1 l'.length c1) l') := Lib.hid (HL1.out.but (But.of (D := D) HNW.out) hDw)
          replace HQO := Lib.hid (HQO.out.later HNW.out)
          clear HS1 HNW HL1
          generalize y1.alloc (.cells q.arr 48) = y2 at *
          generalize y1.heap.size = g8 at *
          generalize NX.2 = er at *
          by_cases her : er = 0
          · have b3 : (er == 0) = true := by rw [her]; rfl
            have HTQ := Lib.hid (HQT.out her)
            clear her
            have hvs : q.arr.size = 13 := rfl
            go_wp2_with (first | (refine wpList_load_row rfl 48 (.tmp 11) rfl g8 rfl 48 q.arr (0, 0) _ HG8.out Tryz.underlying48 rfl q.info ?_) | (at_builtin; (first | rw [fold13] | (rw [← hvs, fold13])); go_must (refine wpList_app_newK y2 rfl (.tmp 50) (.tmp 52) 27 48 rfl w.heap.size Tryz.underlying27 stm_info rfl _ l'.length (plsC l') HL2.out.own.own rfl 1 q.arr rfl q.ones rfl rfl (by unfold maxLen; omega) (by omega) (Nat.le_trans hwr HS2.out.but.size) ?_); intro x3 z3 ho hb hk1 hk2; rw [show q.arr.toList = plsC [q] from rfl] at ho; have HO3 := Lib.hid (HL2.out.own.app (m := [q]) (fun s hs => by rw [List.mem_singleton.1 hs]; exact ⟨HQO.out, HCL.out⟩) ho hk1 hk2); have HB3 := Lib.hid hb; clear ho hb hk1 hk2))
            have HGT : Hid (LGot z3 w.heap.size x3 (l' ++ [q])) := Lib.hid ⟨HO3.out, fun s hs => by
              rcases List.mem_append.1 hs with hs | hs
              · exact HL2.out.hi s hs
              · rw [List.mem_singleton.1 hs]; exact HQH.out, fun s hs => by
              rcases List.mem_append.1 hs with hs | hs
              · exact HL2.out.small s hs
              · rw [List.mem_singleton.1 hs]; exact HQS.out⟩
            have HRT : Hid (Rnd L D t w z3) := Lib.hid ⟨(HQ.out.2.but.trans HS2.out.but).grow HB3.out, by obtain ⟨k, hk⟩ := HS2.out.dice; exact ⟨k, hk.below HB3.out hDw⟩⟩
            refine ⟨⟨m - 1, T, l' ++ [q], by omega, by go_num, rfl, ⟨by omega, by omega⟩, by rw [List.length_append]; show l'.length + 1 + (m - 1) ≤ N; omega, Lib.hid (HTL.out.app (TimL.one (by rw [HTQ.out]; exact ⟨hs0, hs2⟩))), Lib.hid ⟨HGT.out, HRT.out⟩⟩, by simp [intOf]; omega⟩
          · have b3 : (er == 0) = false := by rw [beq_eq_false_iff_ne]; exact her
            clear her
            go_wp2_with fail
            refine ⟨⟨m - 1, T, l', by omega, by go_num, rfl, ⟨by omega, by omega⟩, by omega, HTL, Lib.hid ⟨HL2.out, HQ.out.2.but.trans HS2.out.but, HS2.out.dice⟩⟩, by simp [intOf]; omega⟩
        · go_upto_region 10 with (refine wpList_store_row rfl 48 (.tmp 10) (.tmp 40) rfl g (resignPl au T).arr rfl rfl 48 _ HG5.out (resignPl au T).info rfl (resignPl au T).one ?_)
          have HR6 := Lib.hid (HR5.out.row g hgw hDr (resignPl au T).arr)
          have HG6 := Lib.hid (setRow_heap x4 g _ (resignPl au T).arr _ _ HG5.out)
          have HPO6 := Lib.hid (resign_ok (x4.setRow g (resignPl au T).arr) au T)
          have HHI6 := Lib.hid (resign_hi wr.heap.size au T); have HPS6 := Lib.hid (resign_small au T)
          have HPT6 : Hid ((resignPl au T).s.time = T) := Lib.hid rfl
          clear b1 b2 HR5 HG5 HPO HHI HPS HPT
          generalize x4.setRow g (resignPl au T).arr = x5 at *
          generalize resignPl au T = rp at *
          have HLW := Lib.hid (HQ.out.1.but HR6.out.but hDw)
          obtain ⟨A7, c7, hv7, hr7⟩ := HLW.out.own.row
          injection hv7 with hv7 _ hc7
          subst hv7 hc7
          have HLR := Lib.hid hr7; clear hr7
          have HRNX := Lib.hid (nextP_any au A1 l'.length c1 l' rp x5 HLR.out (by omega) HLW.out.small HPO6.out HPS6.out)
          have HSN := Lib.hid (nextP_small (au := au) (l := l'.map (·.s)) HPS6.out)
          have HNT := Lib.hid (nextP_time (au := au) (l := l'.map (·.s)) (s := rp.s))
          generalize nextP au (l'.map (·.s)) rp.s = NX at HRNX HSN HNT
          clear HLR
          go_wp2_with (refine wpList_load_row rfl 48 (.tmp 10) rfl g rfl 48 rp.arr (0, 0) _ HG6.out Tryz.underlying48 rfl rp.info ?_)
          refine HRNX.out.mono ?_
          clear HRNX
          rintro e y1 ⟨q, rfl, hqs, hqo, hna, hnb, hb⟩
          have HS1 := Lib.hid (HR6.out.later hb)
          have HQS : Hid (Small q.s) := Lib.hid (by rw [hqs]; exact HSN.out)
          have HQT : Hid (NX.2 = 0 → q.s.time = T) := Lib.hid fun h => by rw [hqs, HNT.out h, HPT6.out]
          have HQO := Lib.hid hqo
          have hxw : w.heap.size ≤ x5.heap.size := Nat.le_trans hwr HR6.out.but.size
          have HQH : Hid (Hi w.heap.size q) := Lib.hid ⟨fun ad e => Nat.le_trans hxw (hna ad e), fun ad e => Nat.le_trans hxw (hnb ad e)⟩
          have HCL := Lib.hid (clear_new (q := q) hna hnb (own_lt HLW.out.own.own))
          have HL1 : Hid (LGot y1 w.heap.size (.slice A1 l'.length c1) l') := Lib.hid (HLW.out.but (But.of (D := D) hb) hDw)
          clear hqs hqo hna hnb hb HLW HG6 HPO6 HHI6 HPS6 HR6 HSN HNT HPT6
          go_upto_region 11 with (refine wpList_store_new rfl 48 (.tmp 11) (.tmp 46) rfl 48 _ q.arr rfl rfl q.info rfl q.one ?_)
          have HNW := Lib.hid (one_new y1 (.cells q.arr 48))
          have HG8 : Hid ((y1.alloc (.cells q.arr 48)).heap[y1.heap.size]? = some (.cells q.arr 48 (0, 0))) := Lib.hid (heap_alloc_new _ _)
          have HS2 := Lib.hid (HS1.out.later HNW.out)
          have HL2 : Hid (LGot (y1.alloc (.cells q.arr 48)) w.heap.size (.slice A1 l'.length c1) l') := Lib.hid (HL1.out.but (But.of (D := D) HNW.out) hDw)
          replace HQO := Lib.hid (HQO.out.later HNW.out)
          clear HS1 HNW HL1
          generalize y1.alloc (.cells q.arr 48) = y2 at *
          generalize y1.heap.size = g8 at *
          generalize NX.2 = er at *
          by_cases her : er = 0
          · have b3 : (er == 0) = true := by rw [her]; rfl
            have HTQ := Lib.hid (HQT.out her)
            clear her
            have hvs : q.arr.size = 13 := rfl
            go_wp2_with (first | (refine wpList_load_row rfl 48 (.tmp 11) rfl g8 rfl 48 q.arr (0, 0) _ HG8.out Tryz.underlying48 rfl q.info ?_) | (at_builtin; (first | rw [fold13] | (rw [← hvs, fold13])); go_must (refine wpList_app_newK y2 rfl (.tmp 50) (.tmp 52) 27 48 rfl w.heap.size Tryz.underlying27 stm_info rfl _ l'.length (plsC l') HL2.out.own.own rfl 1 q.arr rfl q.ones rfl rfl (by unfold maxLen; omega) (by omega) (Nat.le_trans hwr HS2.out.but.size) ?_); intro x3 z3 ho hb hk1 hk2; rw [show q.arr.toList = plsC [q] from rfl] at ho; have HO3 := Lib.hid (HL2.out.own.app (m := [q]) (fun s hs => by rw [List.mem_singleton.1 hs]; exact ⟨HQO.out, HCL.out⟩) ho hk1 hk2); have HB3 := Lib.hid hb; clear ho hb hk1 hk2))
            have HGT : Hid (LGot z3 w.heap.size x3 (l' ++ [q])) := Lib.hid ⟨HO3.out, fun s hs => by
              rcases List.mem_append.1 hs with hs | hs
              · exact HL2.out.hi s hs
              · rw [List.mem_singleton.1 hs]; exact HQH.out, fun s hs => by
              rcases List.mem_append.1 hs with hs | hs
              · exact HL2.out.small s hs
              · rw [List.mem_singleton.1 hs]; exact HQS.out⟩
            have HRT : Hid (Rnd L D t w z3) := Lib.hid ⟨(HQ.out.2.but.trans HS2.out.but).grow HB3.out, by obtain ⟨k, hk⟩ := HS2.out.dice; exact ⟨k, hk.below HB3.out hDw⟩⟩
            refine ⟨⟨m - 1, T, l' ++ [q], by omega, by go_num, rfl, ⟨by omega, by omega⟩, by rw [List.length_append]; show l'.length + 1 + (m - 1) ≤ N; omega, Lib.hid (HTL.out.app (TimL.one (by rw [HTQ.out]; exact ⟨hs0, hs2⟩))), Lib.hid ⟨HGT.out, HRT.out⟩⟩, by simp [intOf]; omega⟩
          · have b3 : (er == 0) = false := by rw [beq_eq_false_iff_ne]; exact her
            clear her
            go_wp2_with fail
            refine ⟨⟨m - 1, T, l', by omega, by go_num, rfl, ⟨by omega, by omega⟩, by omega, HTL, Lib.hid ⟨HL2.out, HQ.out.2.but.trans HS2.out.but, HS2.out.dice⟩⟩, by simp [intOf]; omega⟩
      · have b1 : ((m : Int) == 1) = false := by rw [beq_eq_false_iff_ne]; omega
        have b2 : (m == 1) = false := by rw [beq_eq_false_iff_ne]; exact hm1
        go_upto_region 10 with fail
        clear b1 b2
        have HLW := Lib.hid (HQ.out.1.but HR4.out.but hDw)
        obtain ⟨A7, c7, hv7, hr7⟩ := HLW.out.own.row
        injection hv7 with hv7 _ hc7
        subst hv7 hc7
        have HLR := Lib.hid hr7; clear hr7
        have HRNX := Lib.hid (nextP_any au A1 l'.length c1 l' p x3 HLR.out (by omega) HLW.out.small HPO.out HPS.out)
        have HSN := Lib.hid (nextP_small (au := au) (l := l'.map (·.s)) HPS.out)
        have HNT := Lib.hid (nextP_time (au := au) (l := l'.map (·.s)) (s := p.s))
        generalize nextP au (l'.map (·.s)) p.s = NX at HRNX HSN HNT
        clear HLR
        go_wp2_with (refine wpList_load_row rfl 48 (.tmp 10) rfl g rfl 48 p.arr (0, 0) _ HG.out Tryz.underlying48 rfl p.info ?_)
        refine HRNX.out.mono ?_
        clear HRNX
        rintro e y1 ⟨q, rfl, hqs, hqo, hna, hnb, hb⟩
        have HS1 := Lib.hid (HR4.out.later hb)
        have HQS : Hid (Small q.s) := Lib.hid (by rw [hqs]; exact HSN.out)
        have HQT : Hid (NX.2 = 0 → q.s.time = T) := Lib.hid fun h => by rw [hqs, HNT.out h, HPT.out]
        have HQO := Lib.hid hqo
        have hxw : w.heap.size ≤ x3.heap.size := Nat.le_trans hwr HR4.out.but.size
        have HQH : Hid (Hi w.heap.size q) := Lib.hid ⟨fun ad e => Nat.le_trans hxw (hna ad e), fun ad e => Nat.le_trans hxw (hnb ad e)⟩
        have HCL := Lib.hid (clear_new (q := q) hna hnb (own_lt HLW.out.own.own))
        have HL1 : Hid (LGot y1 w.heap.size (.slice A1 l'.length c1) l') := Lib.hid (HLW.out.but (But.of (D := D) hb) hDw)
        clear hqs hqo hna hnb hb HLW HG HPO HHI HPS HR4 HSN HNT HPT
        go_upto_region 11 with (refine wpList_store_new rfl 48 (.tmp 11) (.tmp 46) rfl 48 _ q.arr rfl rfl q.info rfl q.one ?_)
        have HNW := Lib.hid (one_new y1 (.cells q.arr 48))
        have HG8 : Hid ((y1.alloc (.cells q.arr 48)).heap[y1.heap.size]? = some (.cells q.arr 48 (0, 0))) := Lib.hid (heap_alloc_new _ _)
        have HS2 := Lib.hid (HS1.out.later HNW.out)
        have HL2 : Hid (LGot (y1.alloc (.cells q.arr 48)) w.heap.size (.slice A1 l'.length c1) l') := Lib.hid (HL1.out.but (But.of (D := D) HNW.out) hDw)
        replace HQO := Lib.hid (HQO.out.later HNW.out)
        clear HS1 HNW HL1
        generalize y1.alloc (.cells q.arr 48) = y2 at *
        generalize y1.heap.size = g8 at *
        generalize NX.2 = er at *
        by_cases her : er = 0
        · have b3 : (er == 0) = true := by rw [her]; rfl
          have HTQ := Lib.hid (HQT.out her)
          clear her
          have hvs : q.arr.size = 13 := rfl
          go_wp2_with (first | (refine wpList_load_row rfl 48 (.tmp 11) rfl g8 rfl 48 q.arr (0, 0) _ HG8.out Tryz.underlying48 rfl q.info ?_) | (at_builtin; (first | rw [fold13] | (rw [← hvs, fold13])); go_must (refine wpList_app_newK y2 rfl (.tmp 50) (.tmp 52) 27 48 rfl w.heap.size Tryz.underlying27 stm_info rfl _ l'.length (plsC l') HL2.out.own.own rfl 1 q.arr rfl q.ones rfl rfl (by unfold maxLen; omega) (by omega) (Nat.le_trans hwr HS2.out.but.size) ?_); intro x3 z3 ho hb hk1 hk2; rw [show q.arr.toList = plsC [q] from rfl] at ho; have HO3 := Lib.hid (HL2.out.own.app (m := [q]) (fun s hs => by rw [List.mem_singleton.1 hs]; exact ⟨HQO.out, HCL.out⟩) ho hk1 hk2); have HB3 := Lib.hid hb; clear ho hb hk1 hk2))
          have HGT : Hid (LGot z3 w.heap.size x3 (l' ++ [q])) := Lib.hid ⟨HO3.out, fun s hs => by
            rcases List.mem_append.1 hs with hs | hs
            · exact HL2.out.hi s hs
            · rw [List.mem_singleton.1 hs]; exact HQH.out, fun s hs => by
            rcases List.mem_append.1 hs with hs | hs
            · exact HL2.out.small s hs
            · rw [List.mem_singleton.1 hs]; exact HQS.out⟩
          have HRT : Hid (Rnd L D t w z3) := Lib.hid ⟨(HQ.out.2.but.trans HS2.out.but).grow HB3.out, by obtain ⟨k, hk⟩ := HS2.out.dice; exact ⟨k, hk.below HB3.out hDw⟩⟩
          refine ⟨⟨m - 1, T, l' ++ [q], by omega, by go_num, rfl, ⟨by omega, by omega⟩, by rw [List.length_append]; show l'.length + 1 + (m - 1) ≤ N; omega, Lib.hid (HTL.out.app (TimL.one (by rw [HTQ.out]; exact ⟨hs0, hs2⟩))), Lib.hid ⟨HGT.out, HRT.out⟩⟩, by simp [intOf]; omega⟩
        · have b3 : (er == 0) = false := by rw [beq_eq_false_iff_ne]; exact her
          clear her
          go_wp2_with fail
          refine ⟨⟨m - 1, T, l', by omega, by go_num, rfl, ⟨by omega, by omega⟩, by omega, HTL, Lib.hid ⟨HL2.out, HQ.out.2.but.trans HS2.out.but, HS2.out.dice⟩⟩, by simp [intOf]; omega⟩
    · have hm2 : ¬ (0 : Int) < (m : Int) := by omega
      go_wp2_with fail
      go_ret
      exact ⟨_, rfl, l', HQ.out.1, by omega, ⟨HQ.out.2.dice, HQ.out.2.but⟩, HTL.out.mono (by omega)⟩
end Go.Proofs.YtnmpbjgccbnomaaGreat
/- In the midst of the dice's Spoil: a statement in a block of its own, beside a list. -/
namespace Go.Proofs.YtnmpbjgccbnomaaGreat
open Go.RowKit
theorem wrap64_id7 (n : Int) (h : -9223372036854775808 ≤ n ∧ n ≤ 9223372036854775807) : wrap64 n = n := by unfold wrap64; omega
/-- A statement with the same lists. -/
def Pl.to (p : Pl) (s : Stm) : Pl := ⟨s, p.A, p.n, p.c, p.B, p.m, p.k⟩
/-- Its lists do not lie in block g. -/
def OffB (g : Nat) (p : Pl) : Prop := (∀ ad, p.A = some ad → 0 < p.n → ad.block ≠ g) ∧ (∀ ad, p.B = some ad → 0 < p.m → ad.block ≠ g)
theorem PlOk.offB {x : World} {p : Pl} (h : PlOk x p) {g : Nat} (hg : x.heap.size ≤ g) : OffB g p := ⟨fun ad hA h0 => by have := Row.lt h.1 (by decide) ad hA h0; omega, fun ad hA h0 => by have := Row.lt h.2 (by decide) ad hA h0; omega⟩
theorem OffB.high {p : Pl} {g B : Nat} (h : g < B) (hA : ∀ ad, p.A = some ad → B ≤ ad.block) (hB : ∀ ad, p.B = some ad → B ≤ ad.block) : OffB g p := ⟨fun ad e _ => by have := hA ad e; omega, fun ad e _ => by have := hB ad e; omega⟩
theorem PlOk.turn {x y : World} {p : Pl} {g : Nat} (h : PlOk x p) (ho : OffB g p) (hb : But g x y) : PlOk y p := ⟨Row.but h.1 hb fun ad hA h0 => ho.1 ad hA h0, Row.but h.2 hb fun ad hA h0 => ho.2 ad hA h0⟩
theorem Rnd.turn {L D : Nat} {t : List Int} {w x y : World} (h : Rnd L D t w x) {g : Nat} (hg : w.heap.size ≤ g) (hD : D < w.heap.size) (hb : But g x y) : Rnd L D t w y := by
  obtain ⟨k, hk⟩ := h.dice
  exact ⟨⟨hb.os.trans h.but.os, hb.tape.trans h.but.tape, hb.output.trans h.but.output, Nat.le_trans h.but.size hb.size, fun i hi hne => (hb.block i (Nat.lt_of_lt_of_le hi h.but.size) (by omega)).trans (h.but.block i hi hne)⟩, k, hk.but hb (by omega) (by have := hk.low; omega)⟩
theorem own_keepL {w w' : World} {B : Nat} {e : TypeId} {sz : Nat} {v : Value} {n : Nat} {xs : List Value} (h : w.ownsRow B e sz v n xs) (hk : ∀ g, v.ownBlock = some g → w'.heap[g]? = w.heap[g]?) : w'.ownsRow B e sz v n xs := by
  refine ⟨h.1, ?_⟩
  rcases h.2 with hn | ⟨g, cap, cur, rfl, hg, hgg, rest⟩
  · exact .inl hn
  · exact .inr ⟨g, cap, cur, rfl, hg, (hk g rfl).trans hgg, rest⟩
/-- Neither the slice nor a list lies in block g. -/
def LFree (g : Nat) (v : Value) (l : List Pl) : Prop := v.ownBlock ≠ some g ∧ ∀ p ∈ l, OffB g p
theorem LGot.free {w : World} {B : Nat} {v : Value} {l : List Pl} (h : LGot w B v l) {g : Nat} (hg : w.heap.size ≤ g) : LFree g v l := ⟨fun e => by have := own_lt h.own.own _ e; omega, fun p hp => (h.own.ok p hp).1.offB hg⟩
theorem LGot.turn {x y : World} {B g : Nat} {v : Value} {l : List Pl} (h : LGot x B v l) (hf : LFree g v l) (hb : But g x y) : LGot y B v l :=
  ⟨⟨own_keepL h.own.own fun k hk => hb.block k (own_lt h.own.own _ hk) fun e => hf.1 (by rw [hk, e]), fun p hp => ⟨(h.own.ok p hp).1.turn (hf.2 p hp) hb, (h.own.ok p hp).2⟩⟩, h.hi, h.small⟩
/-- The statement in block g, since a round began in wr. -/
structure SpM (L D : Nat) (t : List Int) (wr : World) (g : Nat) (p : Pl) (x : World) : Prop where
  rnd : Rnd L D t wr x
  cur : x.heap[g]? = some (.cells p.arr 48 (0, 0))
  ok : PlOk x p
  off : OffB g p
  hi : Hi wr.heap.size p
  small : Small p.s
  ge : wr.heap.size ≤ g
  dlt : D < wr.heap.size
section
variable {L D : Nat} {t : List Int} {wr x y : World} {g : Nat} {p : Pl}
theorem SpM.lt (h : SpM L D t wr g p x) : g < x.heap.size := (Array.getElem?_eq_some_iff.1 h.cur).1
theorem SpM.later (h : SpM L D t wr g p x) (hb : Below x.heap.size x y) : SpM L D t wr g p y := ⟨h.rnd.later hb, (hb.block _ h.lt).trans h.cur, h.ok.later hb, h.off, h.hi, h.small, h.ge, h.dlt⟩
theorem SpM.gave (h : SpM L D t wr g p x) (hg : Gave L D t x y) : SpM L D t wr g p y := ⟨h.rnd.gave hg, (hg.2.block g h.lt (by have := h.ge; have := h.dlt; omega)).trans h.cur, h.ok.butD hg.2 h.hi h.dlt, h.off, h.hi, h.small, h.ge, h.dlt⟩
theorem SpM.row (h : SpM L D t wr g p x) (q : Pl) (hq : PlOk x q) (ho : OffB g q) (hh : Hi wr.heap.size q) (hs : Small q.s) : SpM L D t wr g q (x.setRow g q.arr) :=
  ⟨h.rnd.turn h.ge h.dlt (But.of_row _ _ _), setRow_heap _ _ _ _ _ _ h.cur, hq.turn ho (But.of_row _ _ _), ho, hh, hs, h.ge, h.dlt⟩
theorem SpM.set (h : SpM L D t wr g p x) (s' : Stm) (i : Nat) (v : Value) (ha : (p.to s').arr = p.arr.setIfInBounds i v) (hl : s'.list = p.s.list) (hp : s'.pins = p.s.pins) (hs : Small s') : SpM L D t wr g (p.to s') (x.setCell ⟨g, i, none⟩ v) :=
  ⟨h.rnd.turn h.ge h.dlt (But.set _ _ _), by rw [ha]; exact heap_setCell_same _ _ _ _ _ _ h.cur, by
    have h1 := h.ok.turn h.off (But.set x i v)
    exact ⟨by show IRow _ p.A p.n p.c s'.list; rw [hl]; exact h1.1, by show PRow _ p.B p.m p.k s'.pins; rw [hp]; exact h1.2⟩, h.off, h.hi, hs, h.ge, h.dlt⟩
/-- Time and kind stay. -/
def FC (g : Nat) (a b : World) : Prop := b.cell? ⟨g, 3, none⟩ = a.cell? ⟨g, 3, none⟩ ∧ b.cell? ⟨g, 4, none⟩ = a.cell? ⟨g, 4, none⟩
theorem FC.refl (a : World) : FC g a a := ⟨rfl, rfl⟩
theorem FC.trans {a b c : World} (h : FC g a b) (k : FC g b c) : FC g a c := ⟨k.1.trans h.1, k.2.trans h.2⟩
theorem SpM.c3 (h : SpM L D t wr g p x) : x.cell? ⟨g, 3, none⟩ = some (.int .i64 p.s.time) := (cell_of_row _ _ 3 _ _ _ h.cur).trans rfl
theorem SpM.c4 (h : SpM L D t wr g p x) : x.cell? ⟨g, 4, none⟩ = some (.int .i64 p.s.kind) := (cell_of_row _ _ 4 _ _ _ h.cur).trans rfl
theorem SpM.fc {q : Pl} (h : SpM L D t wr g p x) (h' : SpM L D t wr g q y) (ht : q.s.time = p.s.time) (hk : q.s.kind = p.s.kind) : FC g x y := ⟨by rw [h.c3, h'.c3, ht], by rw [h.c4, h'.c4, hk]⟩
end
end Go.Proofs.YtnmpbjgccbnomaaGreat
/- The walk of the reference's Active. -/
namespace Go.Proofs.YtnmpbjgccbnomaaGreat
open Go.RowKit
theorem own_later {w w' : World} {B : Nat} {e : TypeId} {sz : Nat} {v : Value} {n : Nat} {xs : List Value} (h : w.ownsRow B e sz v n xs) (hb : Below w.heap.size w w') : w'.ownsRow B e sz v n xs := own_keepL h fun _ hg => hb.block _ (own_lt h _ hg)
/-- Whether the next vouch is one between the same two, by that time. -/
def laterB (all : List Vou) (tm : Int) (i : Nat) : Bool := decide (i + 1 < all.length) && (decide ((all.getD (i + 1) noVou).fr = (all.getD i noVou).fr) && (decide ((all.getD (i + 1) noVou).tu = (all.getD i noVou).tu) && decide ((all.getD (i + 1) noVou).tm ≤ tm)))
def keepV (all : List Vou) (gone : List Int) (tm : Int) (i : Nat) : Bool := decide ((all.getD i noVou).tm ≤ tm) && (decide (tm < (all.getD i noVou).en) && ((decide ((all.getD i noVou).rv = -1) || decide (tm < (all.getD i noVou).rv)) && (!laterB all tm i && (!hasI gone (all.getD i noVou).fr && !hasI gone (all.getD i noVou).tu))))
def activeUp (all : List Vou) (gone : List Int) (tm : Int) : Nat → List Vou
  | 0 => []
  | i + 1 => activeUp all gone tm i ++ (if keepV all gone tm i then [all.getD i noVou] else [])
def activeOf (all : List Vou) (gone : List Int) (tm : Int) : List Vou := activeUp all gone tm all.length
/-- The active vouches at a time. -/
def activeS (L : List Stm) (tm : Int) : List Vou := activeOf (vouchesS L) (goneS L tm) tm
theorem activeUp_len (all : List Vou) (gone : List Int) (tm : Int) : ∀ i, (activeUp all gone tm i).length ≤ i
  | 0 => Nat.le_refl _
  | i + 1 => by
    have h := activeUp_len all gone tm i
    unfold activeUp
    rw [List.length_append]
    split
    · simp only [List.length_cons, List.length_nil]; omega
    · simp only [List.length_nil]; omega
theorem vouchesS_len (L : List Stm) : (vouchesS L).length ≤ L.length := vouchesUp_len L L
set_option maxRecDepth 100000 in
set_option maxHeartbeats 4000000 in
theorem active_any (A : Option Addr) (n c : Nat) (l : List Pl) (tm : Int) (w : World) (hl : LRow w A n c l) (hn : n ≤ 100000) : Calls Tryz.prog 31 #[.slice A n c, .int .i64 tm] w (GivesV w (activeS (l.map (·.s)) tm)) := by
  have HL := Lib.hid hl
  have HVL : Hid ((vouchesS (l.map (·.s))).length ≤ n) := Lib.hid (by have h := vouchesS_len (l.map (·.s)); rw [List.length_map, hl.len] at h; exact h)
  have HVO := Lib.hid (vof_any A n c l w hl hn)
  have HGO : Hid (∀ y, Below w.heap.size w y → Calls Tryz.prog 30 #[.slice A n c, .int .i64 tm] y (GivesI y (goneS (l.map (·.s)) tm))) := Lib.hid fun y h => gone_any A n c l tm y (hl.later h) hn
  have HGL : Hid ((goneS (l.map (·.s)) tm).length ≤ 64) := Lib.hid (goneUp_len _ _ 64)
  unfold activeS
  generalize vouchesS (l.map (·.s)) = all at *
  generalize goneS (l.map (·.s)) tm = gone at *
  obtain ⟨GS, hgs⟩ : ∃ GS, activeOf all gone tm = GS := ⟨_, rfl⟩
  rw [hgs]
  have HGS : Hid (activeUp all gone tm all.length = GS) := Lib.hid hgs
  clear hl hgs HL
  go_enter Tryz.func31, Tryz.ntmps31
  go_wp2_with fail
  refine HVO.out.mono ?_
  rintro e w1 ⟨A1, n1, c1, rfl, hv1, hb⟩
  have HB1 := Lib.hid hb; have HV1 := Lib.hid hv1
  have hln : all.length = n1 := hv1.len
  have hn1 : n1 ≤ 100000 := by have := HVL.out; omega
  have HLN := Lib.hid hln
  clear hb hv1 hln HVO
  go_wp2_with fail
  refine (HGO.out w1 HB1.out).mono ?_
  rintro e w2 ⟨A2, n2, c2, rfl, hg2, hb⟩
  have HB2 := Lib.hid (HB1.out.trans (hb.mono HB1.out.size)); have HV2 : Hid (VRow w2 A1 n1 c1 all) := Lib.hid (GRow.later HV1.out hb); have HG2 := Lib.hid hg2
  have hn2 : n2 ≤ 100000 := by have h1 : gone.length = n2 := hg2.len; have h2 := HGL.out; omega
  clear hb hg2 HB1 HV1 HGO
  go_wp2_with fail
  go_loopw [7, 8] (fun v i wr => ∃ (j : Nat), j ≤ n1 ∧ i = .int .i64 j ∧ Hid (wr.ownsRow w2.heap.size 67 7 v (activeUp all gone tm j).length (rowC Vou.cells (activeUp all gone tm j)) ∧ Below w2.heap.size w2 wr)) (fun _ i _ => n1 - (intOf i).toNat)
  case atStart => exact ⟨0, Nat.zero_le _, rfl, Lib.hid ⟨World.ownsRow_nil _ _ _ _, Below.refl _ _⟩⟩
  case round =>
    obtain ⟨j, hj, rfl, HQ⟩ := hrel
    obtain ⟨A3, c3, hv3, -⟩ := Row.of_own HQ.out.1
    subst hv3
    by_cases hlt : j < n1
    · have hlt2 : (j : Int) < (n1 : Int) := by omega
      have HUL : Hid ((activeUp all gone tm j).length ≤ j) := Lib.hid (activeUp_len _ _ _ j)
      have HUP : Hid (activeUp all gone tm (j + 1) = activeUp all gone tm j ++ (if keepV all gone tm j then [all.getD j noVou] else [])) := Lib.hid rfl
      have HO := Lib.hid HQ.out.1; have HB := Lib.hid HQ.out.2
      obtain ⟨U, hU⟩ : ∃ U, activeUp all gone tm j = U := ⟨_, rfl⟩
      rw [hU] at HO HUL HUP ⊢
      clear HQ hU
      obtain ⟨b, off, hA, hc⟩ := GRow.cells Vou.len (by decide) (GRow.later HV2.out HB.out) noVou j hlt
      subst hA
      obtain ⟨p, hp⟩ : ∃ p, all.getD j noVou = p := ⟨_, rfl⟩
      rw [hp] at hc HUP
      have HC : Hid (∀ k, k < p.arr.size → wr.cell? ⟨b, off + j * 7 + k, none⟩ = p.arr[k]?) := Lib.hid fun k hk => (hc k hk).trans (by rw [← Vou.list, Array.getElem?_toList])
      have HKP : Hid (keepV all gone tm j = (decide (p.tm ≤ tm) && (decide (tm < p.en) && ((decide (p.rv = -1) || decide (tm < p.rv)) && (!laterB all tm j && (!hasI gone p.fr && !hasI gone p.tu)))))) := Lib.hid (by rw [keepV, hp])
      have HLT : Hid (laterB all tm j = (decide (j + 1 < all.length) && (decide ((all.getD (j + 1) noVou).fr = p.fr) && (decide ((all.getD (j + 1) noVou).tu = p.tu) && decide ((all.getD (j + 1) noVou).tm ≤ tm))))) := Lib.hid (by rw [laterB, hp])
      generalize keepV all gone tm j = kb at *
      generalize laterB all tm j = lb at *
      clear hc hp
      go_upto_region 7 with (first | (refine wpList_load_cells rfl 67 (.tmp 24) rfl b (off + j * 7) rfl p.arr _ Tryz.underlying67 rfl p.info HC.out ?_) | (refine wpList_store_new rfl 67 (.tmp 9) (.tmp 25) rfl 67 _ p.arr rfl rfl p.info rfl p.one ?_))
      have HN3 := Lib.hid (one_new wr (.cells p.arr 67))
      have HX : Hid ((wr.alloc (.cells p.arr 67)).heap[wr.heap.size]? = some (.cells p.arr 67 (0, 0))) := Lib.hid (heap_alloc_new _ _)
      replace HB := Lib.hid (HB.out.trans (HN3.out.mono HB.out.size)); replace HO := Lib.hid (World.ownsRow.alloc HO.out (.cells p.arr 67))
      clear HN3 HC
      generalize wr.alloc (.cells p.arr 67) = x2 at *
      generalize wr.heap.size = g at *
      simp only [Act.put]
      go_cut [10] (fun v10 wx => v10 = .bool lb ∧ Hid (Below x2.heap.size x2 wx))
      case first =>
        refine wp_region_grow (by kernel_rfl) Later Later.refl (fun _ _ _ => Later.trans) [0, 1, 2, 3, 4, 5, 6, 7, 8, 9, 10, 11, 12, 13, 14, 15, 16, 17, 18, 19, 20, 21, 22, 23, 24, 25, 26, 27, 28, 29, 30, 31, 32, 33, 34, 35, 36, 37] [] (by kernel_rfl) (by kernel_rfl) (by kernel_rfl) ?_
        simp only [List.map_cons, List.map_nil, pick, List.getD_cons_zero, List.getD_cons_succ]
        have HU : Hid (Below x2.heap.size x2 x2.drew) := Lib.hid (Below.refl _ _).drew
        have HX0 : Hid (x2.drew.heap[g]? = some (.cells p.arr 67 (0, 0))) := Lib.hid HX.out
        have HVX : Hid (VRow x2.drew (some ⟨b, off, none⟩) n1 c1 all) := Lib.hid (GRow.later HV2.out HB.out.drew)
        generalize x2.drew = z0 at *
        have hgs : g < z0.heap.size := (Array.getElem?_eq_some_iff.1 HX0.out).1
        have hbx := fun x k => box_futs (F := Later) Later.refl (W := z0) (fun _ h => h.block _ hgs) HX0.out x k
        have hp0 : ∀ y, (fut Later z0 y).cell? ⟨g, 0, none⟩ = some (.int .i64 p.fr) := fun y => by have h := hbx y 0; rw [Nat.zero_add] at h; exact h
        have hp1 : ∀ y, (fut Later z0 y).cell? ⟨g, 1, none⟩ = some (.int .i64 p.tu) := fun y => by have h := hbx y 1; rw [Nat.zero_add] at h; exact h
        clear hbx
        have hjn : (j : Int) + 1 ≤ 100000 := by omega
        by_cases h0 : j + 1 < n1
        · have b0 : decide ((j : Int) + 1 < (n1 : Int)) = true := decide_eq_true (by omega)
          have e5 : ((j : Int) + 1).toNat = j + 1 := by omega
          have e6 : (0 : Int) ≤ (j : Int) + 1 := by omega
          have e7 : (j : Int) + 1 < (n1 : Int) := by omega
          have H0 : Hid (decide (j + 1 < all.length) = true) := Lib.hid (decide_eq_true (by have := HLN.out; omega))
          obtain ⟨b2, off2, hA2, hf⟩ := GRow.futs (F := Later) Later.refl Vou.len (by decide) (fun _ h => h) HVX.out noVou (j + 1) h0
          injection hA2 with hA2
          injection hA2 with h1 h2
          subst h1 h2
          obtain ⟨r, hr⟩ : ∃ r, all.getD (j + 1) noVou = r := ⟨_, rfl⟩
          rw [hr] at hf
          have HRE := Lib.hid hr
          have hf0 : ∀ y, (fut Later z0 y).cell? ⟨b, off + (j + 1) * 7, none⟩ = some (.int .i64 r.fr) := fun y => hf y 0 (by decide)
          have hf1 : ∀ y, (fut Later z0 y).cell? ⟨b, off + (j + 1) * 7 + 1, none⟩ = some (.int .i64 r.tu) := fun y => hf y 1 (by decide)
          have hf4 : ∀ y, (fut Later z0 y).cell? ⟨b, off + (j + 1) * 7 + 4, none⟩ = some (.int .i64 r.tm) := fun y => hf y 4 (by decide)
          clear hf hr
          by_cases k0 : r.fr = p.fr
          · have b1 : (r.fr == p.fr) = true := by rw [k0]; simp
            have K0 : Hid (decide (r.fr = p.fr) = true) := Lib.hid (decide_eq_true k0)
            clear k0
            by_cases k1 : r.tu = p.tu
            · have b2 : (r.tu == p.tu) = true := by rw [k1]; simp
              have K1 : Hid (decide (r.tu = p.tu) = true) := Lib.hid (decide_eq_true k1)
              clear k1
              by_cases k2 : r.tm ≤ tm
              · have b3 : decide (r.tm ≤ tm) = true := decide_eq_true k2
                have K2 := Lib.hid b3
                have HE : Hid (lb = true) := Lib.hid (by rw [HLT.out, H0.out, HRE.out, K0.out, K1.out, K2.out]; rfl)
                refine wpGrow_nil ?_
                repeat (go_big_quiet_step (fail))
                refine wpQuiet_nil ?_
                clear hp0 hp1 hf0 hf1 hf4
                go_wp2_with fail
                go_meet
                exact ⟨by rw [HE.out], HU⟩
              · have b3 : decide (r.tm ≤ tm) = false := decide_eq_false k2
                have K2 := Lib.hid b3
                have HE : Hid (lb = false) := Lib.hid (by rw [HLT.out, H0.out, HRE.out, K0.out, K1.out, K2.out]; rfl)
                refine wpGrow_nil ?_
                repeat (go_big_quiet_step (fail))
                refine wpQuiet_nil ?_
                clear hp0 hp1 hf0 hf1 hf4
                go_wp2_with fail
                go_meet
                exact ⟨by rw [HE.out], HU⟩
            · have b2 : (r.tu == p.tu) = false := by rw [beq_eq_false_iff_ne]; exact k1
              have K1 : Hid (decide (r.tu = p.tu) = false) := Lib.hid (decide_eq_false k1)
              clear k1
              have HE : Hid (lb = false) := Lib.hid (by rw [HLT.out, H0.out, HRE.out, K0.out, K1.out]; rfl)
              refine wpGrow_nil ?_
              repeat (go_big_quiet_step (fail))
              refine wpQuiet_nil ?_
              clear hp0 hp1 hf0 hf1 hf4
              go_wp2_with fail
              go_meet
              exact ⟨by rw [HE.out], HU⟩
          · have b1 : (r.fr == p.fr) = false := by rw [beq_eq_false_iff_ne]; exact k0
            have K0 : Hid (decide (r.fr = p.fr) = false) := Lib.hid (decide_eq_false k0)
            clear k0
            have HE : Hid (lb = false) := Lib.hid (by rw [HLT.out, H0.out, HRE.out, K0.out]; rfl)
            refine wpGrow_nil ?_
            repeat (go_big_quiet_step (fail))
            refine wpQuiet_nil ?_
            clear hp0 hp1 hf0 hf1 hf4
            go_wp2_with fail
            go_meet
            exact ⟨by rw [HE.out], HU⟩
        · have b0 : decide ((j : Int) + 1 < (n1 : Int)) = false := decide_eq_false (by omega)
          have e7 : ¬ (j : Int) + 1 < (n1 : Int) := by omega
          have H0 : Hid (decide (j + 1 < all.length) = false) := Lib.hid (decide_eq_false (by have := HLN.out; omega))
          have HE : Hid (lb = false) := Lib.hid (by rw [HLT.out, H0.out]; rfl)
          refine wpGrow_nil ?_
          repeat (go_big_quiet_step (fail))
          refine wpQuiet_nil ?_
          clear hp0 hp1
          go_wp2_with fail
          go_meet
          exact ⟨by rw [HE.out], HU⟩
      case rest =>
        obtain ⟨rfl, HC⟩ := hcut
        replace HB := Lib.hid (HB.out.trans (HC.out.mono HB.out.size))
        have HO2 : Hid (wc.ownsRow w2.heap.size 67 7 (.slice A3 U.length c3) U.length (rowC Vou.cells U)) := Lib.hid (own_later HO.out HC.out)
        have HX2 : Hid (wc.heap[g]? = some (.cells p.arr 67 (0, 0))) := Lib.hid ((HC.out.block _ (Array.getElem?_eq_some_iff.1 HX.out).1).trans HX.out)
        clear HC HO HX HLT
        have hq0 : wc.cell? ⟨g, 0, none⟩ = some (.int .i64 p.fr) := (cell_of_row _ _ 0 _ _ _ HX2.out).trans rfl
        have hq1 : wc.cell? ⟨g, 1, none⟩ = some (.int .i64 p.tu) := (cell_of_row _ _ 1 _ _ _ HX2.out).trans rfl
        have hq4 : wc.cell? ⟨g, 4, none⟩ = some (.int .i64 p.tm) := (cell_of_row _ _ 4 _ _ _ HX2.out).trans rfl
        have hq5 : wc.cell? ⟨g, 5, none⟩ = some (.int .i64 p.en) := (cell_of_row _ _ 5 _ _ _ HX2.out).trans rfl
        have hq6 : wc.cell? ⟨g, 6, none⟩ = some (.int .i64 p.rv) := (cell_of_row _ _ 6 _ _ _ HX2.out).trans rfl
        go_upto_region 8 with fail
        go_cut [101] (fun v wx => v = .bool kb ∧ Hid (Below wc.heap.size wc wx))
        case first =>
          have HHS : Hid (∀ (y : World) (x : Int), Below wc.heap.size wc y → Calls Tryz.prog 55 #[.slice A2 n2 c2, .int .i64 x] y (SaysL (.bool (hasI gone x)) y)) := Lib.hid fun y x h => has_any10 A2 n2 c2 gone x y (HG2.out.later (HB.out.trans (h.mono HB.out.size))) hn2
          by_cases k0 : p.tm ≤ tm
          · have b0 : decide (p.tm ≤ tm) = true := decide_eq_true k0
            have K0 := Lib.hid b0
            by_cases k1 : tm < p.en
            · have b1 : decide (tm < p.en) = true := decide_eq_true k1
              have K1 := Lib.hid b1
              have hor : (p.rv = -1 ∨ tm < p.rv) ∨ ¬ (p.rv = -1 ∨ tm < p.rv) := Decidable.em _
              rcases hor with hor | hor
              · have K2 : Hid ((decide (p.rv = -1) || decide (tm < p.rv)) = true) := Lib.hid (by rw [Bool.or_eq_true, decide_eq_true_eq, decide_eq_true_eq]; exact hor)
                by_cases k2 : p.rv = -1
                · have b2 : (p.rv == -1) = true := by rw [k2]; rfl
                  clear k2 hor
                  cases lb
                  · go_wp2_with fail
                    refine (HHS.out wc p.fr (Below.refl _ _)).mono ?_
                    rintro e y1 ⟨rfl, hb⟩
                    have HY1 := Lib.hid hb
                    have hq1' : y1.cell? ⟨g, 1, none⟩ = some (.int .i64 p.tu) := (cell_of_row _ _ 1 _ _ _ ((hb.block _ (Array.getElem?_eq_some_iff.1 HX2.out).1).trans HX2.out)).trans rfl
                    clear hb
                    generalize hasI gone p.fr = f1 at *
                    cases f1
                    · go_wp2_with fail
                      refine (HHS.out y1 p.tu HY1.out).mono ?_
                      rintro e y2 ⟨rfl, hb⟩
                      have HY2 := Lib.hid (HY1.out.trans (hb.mono HY1.out.size))
                      clear hb
                      generalize hasI gone p.tu = f2 at *
                      cases f2
                      · have HE : Hid (kb = true) := Lib.hid (by rw [HKP.out, K0.out, K1.out, K2.out]; rfl)
                        go_wp2_with fail
                        go_meet
                        exact ⟨by rw [HE.out], HY2⟩
                      · have HE : Hid (kb = false) := Lib.hid (by rw [HKP.out, K0.out, K1.out, K2.out]; rfl)
                        go_wp2_with fail
                        go_meet
                        exact ⟨by rw [HE.out], HY2⟩
                    · have HE : Hid (kb = false) := Lib.hid (by rw [HKP.out, K0.out, K1.out, K2.out]; rfl)
                      go_wp2_with fail
                      go_meet
                      exact ⟨by rw [HE.out], HY1⟩
                  · have HE : Hid (kb = false) := Lib.hid (by rw [HKP.out, K0.out, K1.out, K2.out]; rfl)
                    go_wp2_with fail
                    go_meet
                    exact ⟨by rw [HE.out], Lib.hid (Below.refl _ _)⟩
                · have b2 : (p.rv == -1) = false := by rw [beq_eq_false_iff_ne]; exact k2
                  have b3 : decide (p.rv > tm) = true := decide_eq_true (by rcases hor with h | h; exact absurd h k2; exact h)
                  have b3' : decide (tm < p.rv) = true := b3
                  clear k2 hor
                  cases lb
                  · go_wp2_with fail
                    refine (HHS.out wc p.fr (Below.refl _ _)).mono ?_
                    rintro e y1 ⟨rfl, hb⟩
                    have HY1 := Lib.hid hb
                    have hq1' : y1.cell? ⟨g, 1, none⟩ = some (.int .i64 p.tu) := (cell_of_row _ _ 1 _ _ _ ((hb.block _ (Array.getElem?_eq_some_iff.1 HX2.out).1).trans HX2.out)).trans rfl
                    clear hb
                    generalize hasI gone p.fr = f1 at *
                    cases f1
                    · go_wp2_with fail
                      refine (HHS.out y1 p.tu HY1.out).mono ?_
                      rintro e y2 ⟨rfl, hb⟩
                      have HY2 := Lib.hid (HY1.out.trans (hb.mono HY1.out.size))
                      clear hb
                      generalize hasI gone p.tu = f2 at *
                      cases f2
                      · have HE : Hid (kb = true) := Lib.hid (by rw [HKP.out, K0.out, K1.out, K2.out]; rfl)
                        go_wp2_with fail
                        go_meet
                        exact ⟨by rw [HE.out], HY2⟩
                      · have HE : Hid (kb = false) := Lib.hid (by rw [HKP.out, K0.out, K1.out, K2.out]; rfl)
                        go_wp2_with fail
                        go_meet
                        exact ⟨by rw [HE.out], HY2⟩
                    · have HE : Hid (kb = false) := Lib.hid (by rw [HKP.out, K0.out, K1.out, K2.out]; rfl)
                      go_wp2_with fail
                      go_meet
                      exact ⟨by rw [HE.out], HY1⟩
                  · have HE : Hid (kb = false) := Lib.hid (by rw [HKP.out, K0.out, K1.out, K2.out]; rfl)
                    go_wp2_with fail
                    go_meet
                    exact ⟨by rw [HE.out], Lib.hid (Below.refl _ _)⟩
              · have b2 : (p.rv == -1) = false := by rw [beq_eq_false_iff_ne]; exact fun h => hor (.inl h)
                have b3 : decide (p.rv > tm) = false := decide_eq_false fun h => hor (.inr h)
                have b3' : decide (tm < p.rv) = false := b3
                have K2 : Hid ((decide (p.rv = -1) || decide (tm < p.rv)) = false) := Lib.hid (by rw [Bool.or_eq_false_iff, decide_eq_false_iff_not, decide_eq_false_iff_not]; exact ⟨fun h => hor (.inl h), fun h => hor (.inr h)⟩)
                clear hor
                have HE : Hid (kb = false) := Lib.hid (by rw [HKP.out, K0.out, K1.out, K2.out]; rfl)
                go_wp2_with fail
                go_meet
                exact ⟨by rw [HE.out], Lib.hid (Below.refl _ _)⟩
            · have b1 : decide (tm < p.en) = false := decide_eq_false k1
              have K1 := Lib.hid b1
              have HE : Hid (kb = false) := Lib.hid (by rw [HKP.out, K0.out, K1.out]; rfl)
              go_wp2_with fail
              go_meet
              exact ⟨by rw [HE.out], Lib.hid (Below.refl _ _)⟩
          · have b0 : decide (p.tm ≤ tm) = false := decide_eq_false k0
            have K0 := Lib.hid b0
            have HE : Hid (kb = false) := Lib.hid (by rw [HKP.out, K0.out]; rfl)
            go_wp2_with fail
            go_meet
            exact ⟨by rw [HE.out], Lib.hid (Below.refl _ _)⟩
        case rest =>
          obtain ⟨rfl, HC⟩ := hcut
          replace HB := Lib.hid (HB.out.trans (HC.out.mono HB.out.size))
          have HO3 := Lib.hid (own_later HO2.out HC.out)
          have HX3 := Lib.hid ((HC.out.block _ (Array.getElem?_eq_some_iff.1 HX2.out).1).trans HX2.out)
          clear HC HO2 HX2 hq0 hq1 hq4 hq5 hq6
          have hul := HUL.out
          cases kb
          · have HE : Hid (activeUp all gone tm (j + 1) = U) := Lib.hid (by rw [HUP.out]; simp)
            go_wp2_with fail
            exact ⟨⟨j + 1, by omega, by go_num, Lib.hid (by rw [HE.out]; exact ⟨HO3.out, HB.out⟩)⟩, by simp [intOf]; omega⟩
          · have HE : Hid (activeUp all gone tm (j + 1) = U ++ [p]) := Lib.hid (by rw [HUP.out]; rfl)
            have hsz := HB.out.size
            have hvs : p.arr.size = 7 := rfl
            go_wp2_with (first | (refine wpList_load_row rfl 67 (.tmp 9) rfl g rfl 67 p.arr (0, 0) _ HX3.out Tryz.underlying67 rfl p.info ?_) | (at_builtin; (first | rw [fold7n] | rw [fold7]); go_must (refine wpList_app_newK _ rfl (.tmp 102) (.tmp 104) 64 67 rfl w2.heap.size Tryz.underlying64 vou_info rfl _ U.length (rowC Vou.cells U) HO3.out rfl 1 p.arr rfl p.ones rfl rfl (by unfold maxLen; omega) (by omega) hsz ?_); intro x3 z3 ho hb hk1 hk2; have HO4 := Lib.hid ho; have HB4 := Lib.hid (HB.out.trans hb); clear ho hb hk1 hk2))
            exact ⟨⟨j + 1, by omega, by go_num, Lib.hid (by rw [HE.out, List.length_append, rowC_app, rowC_single]; exact ⟨HO4.out, HB4.out⟩)⟩, by simp [intOf]; omega⟩
    · have hlt2 : ¬ (j : Int) < (n1 : Int) := by omega
      have HE : Hid (j = n1) := by unfold Hid; omega
      obtain ⟨A4, c4, hv4, hr4⟩ := Row.of_own HQ.out.1
      injection hv4 with hv4 _ hc4
      subst hv4 hc4
      have HB3 := Lib.hid (HB2.out.trans (HQ.out.2.mono HB2.out.size))
      have HGE : Hid (activeUp all gone tm j = GS) := Lib.hid (by rw [HE.out, ← HLN.out]; exact HGS.out)
      clear HQ
      rw [HGE.out] at hr4 ⊢
      have HR4 := Lib.hid hr4; clear hr4
      go_wp2_with fail
      go_ret
      exact ⟨_, _, _, rfl, HR4.out, HB3.out⟩
end Go.Proofs.YtnmpbjgccbnomaaGreat
/- Graphs: rows of edges; Has and Set of the reference. -/
namespace Go.Proofs.YtnmpbjgccbnomaaGreat
open Go.RowKit
structure Edg where
  fr : Int
  tu : Int
  lv : Int
def Edg.cells (p : Edg) : List Value := [.int .i64 p.fr, .int .i64 p.tu, .int .i64 p.lv]
def Edg.arr (p : Edg) : Array Value := #[.int .i64 p.fr, .int .i64 p.tu, .int .i64 p.lv]
def noEdg : Edg := ⟨0, 0, 0⟩
theorem Edg.size (p : Edg) : p.arr.size = 3 := rfl
theorem Edg.len (p : Edg) : p.cells.length = 3 := rfl
theorem Edg.list (p : Edg) : p.arr.toList = p.cells := rfl
theorem Edg.one (p : Edg) : p.arr.all (·.oneCell') = true := by simp [Edg.arr, Value.oneCell']
theorem Edg.ones (p : Edg) : ∀ u ∈ p.cells, u.oneCell' = true := fun u hu => by
  have h := p.one
  rw [Array.all_eq_true_iff_forall_mem] at h
  exact h u (by rw [← Array.mem_toList_iff, p.list]; exact hu)
theorem Edg.info (p : Edg) : (Tryz.prog.info? 53).map (·.size) = some p.arr.size := by rw [p.size]; kernel_rfl
abbrev ERow (w : World) (A : Option Addr) (n c : Nat) (l : List Edg) : Prop := GRow Edg.cells 3 w A n c l
theorem ERow.len {w : World} {A : Option Addr} {n c : Nat} {l : List Edg} (h : ERow w A n c l) : l.length = n := GRow.len Edg.len (by decide) h
/-- Whether a number of a list may stand where it does. -/
def okSet (l : List Int) (n : Int) (i : Nat) : Bool := decide (0 ≤ l.getD i 0) && (decide (l.getD i 0 < n) && (decide (i = 0) || decide (l.getD (i - 1) 0 < l.getD i 0)))
def setB (l : List Int) (n : Int) : Bool := (List.range l.length).all (okSet l n)
theorem setB_no {l : List Int} {n : Int} {i : Nat} (hi : i < l.length) (h : okSet l n i = false) : setB l n = false := by
  unfold setB
  rw [List.all_eq_false]
  exact ⟨i, List.mem_range.2 hi, by rw [h]; decide⟩
theorem setB_yes {l : List Int} {n : Int} (h : ∀ i, i < l.length → okSet l n i = true) : setB l n = true := by
  unfold setB
  rw [List.all_eq_true]
  exact fun i hi => h i (List.mem_range.1 hi)
set_option maxRecDepth 100000 in
set_option maxHeartbeats 4000000 in
theorem has_any11 (A : Option Addr) (n c : Nat) (l : List Int) (x : Int) (w : World) (hl : IRow w A n c l) (hn : n ≤ 100000) : Calls Tryz.prog 17 #[.slice A n c, .int .i64 x] w (SaysL (.bool (hasI l x)) w) := by
  have HL := Lib.hid hl; have HLN : Hid (l.length = n) := Lib.hid hl.len
  clear hl
  go_enter Tryz.func17, Tryz.ntmps17
  go_wp2_with fail
  go_loopw [5] (fun i wr => ∃ j : Nat, j ≤ n ∧ i = .int .i64 j ∧ Hid (hasI (l.drop j) x = hasI l x ∧ Below w.heap.size w wr)) (fun i _ => n - (intOf i).toNat)
  case atStart => exact ⟨0, Nat.zero_le _, rfl, Lib.hid ⟨rfl, Below.refl _ _⟩⟩
  case round =>
    obtain ⟨j, hj, rfl, HQ⟩ := hrel
    by_cases hlt : j < n
    · have hlt2 : (j : Int) < (n : Int) := by omega
      obtain ⟨b, off, hA, hc⟩ := IRow.cell (HL.out.later HQ.out.2) j hlt
      subst hA
      have HD : Hid (hasI (l.drop j) x = if l.getD j 0 = x then true else hasI (l.drop (j + 1)) x) := Lib.hid (by
        rw [List.drop_eq_getElem_cons (by rw [HLN.out]; exact hlt), hasI, List.getD_eq_getElem?_getD, List.getElem?_eq_getElem (by rw [HLN.out]; exact hlt)]; rfl)
      generalize l.getD j 0 = a at *
      by_cases hax : a = x
      · have b0 : (a == x) = true := by rw [hax]; simp
        have HT : Hid (hasI l x = true) := Lib.hid (by rw [← HQ.out.1, HD.out, if_pos hax])
        clear hax
        go_wp2_with fail
        go_ret
        exact ⟨by rw [HT.out]; rfl, HQ.out.2⟩
      · have b0 : (a == x) = false := by rw [beq_eq_false_iff_ne]; exact hax
        have HT : Hid (hasI (l.drop (j + 1)) x = hasI l x) := Lib.hid (by rw [← HQ.out.1, HD.out, if_neg hax])
        clear hax
        go_wp2_with fail
        exact ⟨⟨j + 1, hlt, by go_num, Lib.hid ⟨HT.out, HQ.out.2⟩⟩, by simp [intOf]; omega⟩
    · have hlt2 : ¬ (j : Int) < (n : Int) := by omega
      have HT : Hid (hasI l x = false) := Lib.hid (by rw [← HQ.out.1, List.drop_eq_nil_of_le (by rw [HLN.out]; omega)]; rfl)
      go_wp2_with fail
      go_ret
      exact ⟨by rw [HT.out]; rfl, HQ.out.2⟩
end Go.Proofs.YtnmpbjgccbnomaaGreat
/- Graphs: the walk of the reference's before. -/
namespace Go.Proofs.YtnmpbjgccbnomaaGreat
open Go.RowKit
/-- The order of edges. -/
def befE (a b : Edg) : Bool := if a.fr < b.fr then true else if a.fr = b.fr then decide (a.tu < b.tu) else false
end Go.Proofs.YtnmpbjgccbnomaaGreat
/- Graphs: the walks of the reference's Out and In. -/
namespace Go.Proofs.YtnmpbjgccbnomaaGreat
open Go.RowKit
/-- The neighbours of a key: where its edges lead, where edges to it come from. -/
def outS (l : List Edg) (key : Int) : List Int := l.flatMap fun e => if e.fr = key then [e.tu] else []
def inS (l : List Edg) (key : Int) : List Int := l.flatMap fun e => if e.tu = key then [e.fr] else []
theorem outS_snoc (l : List Edg) (key : Int) (i : Nat) (h : i < l.length) : outS (l.take (i + 1)) key = outS (l.take i) key ++ (if (l.getD i noEdg).fr = key then [(l.getD i noEdg).tu] else []) := by
  unfold outS
  rw [List.take_add_one, List.getElem?_eq_getElem h, List.flatMap_append, List.getD_eq_getElem?_getD, List.getElem?_eq_getElem h]
  simp
theorem outS_len (l : List Edg) (key : Int) (i : Nat) (h : i ≤ l.length) : (outS (l.take i) key).length ≤ i := by
  induction i with
  | zero => simp [outS]
  | succ i ih =>
    rw [outS_snoc l key i (by omega), List.length_append]
    have := ih (by omega)
    split <;> simp <;> omega
theorem inS_snoc (l : List Edg) (key : Int) (i : Nat) (h : i < l.length) : inS (l.take (i + 1)) key = inS (l.take i) key ++ (if (l.getD i noEdg).tu = key then [(l.getD i noEdg).fr] else []) := by
  unfold inS
  rw [List.take_add_one, List.getElem?_eq_getElem h, List.flatMap_append, List.getD_eq_getElem?_getD, List.getElem?_eq_getElem h]
  simp
theorem inS_len (l : List Edg) (key : Int) (i : Nat) (h : i ≤ l.length) : (inS (l.take i) key).length ≤ i := by
  induction i with
  | zero => simp [inS]
  | succ i ih =>
    rw [inS_snoc l key i (by omega), List.length_append]
    have := ih (by omega)
    split <;> simp <;> omega
end Go.Proofs.YtnmpbjgccbnomaaGreat
