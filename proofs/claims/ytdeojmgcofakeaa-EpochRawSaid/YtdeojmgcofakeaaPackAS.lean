import Derived.Test.YtdeojmgcofakeaaPackAQ
import Derived.Test.YtdeojmgcofakeaaDiceGiveP
/- The walk of the dice's Chain. -/
namespace Go.Proofs.Ytdeojmgcofakeaa
open Go.RowKit
/-- Its lists lie in blocks from B on. -/
def Hi (B : Nat) (p : Pl) : Prop := (∀ ad, p.A = some ad → B ≤ ad.block) ∧ (∀ ad, p.B = some ad → B ≤ ad.block)
theorem Hi.mono {B C : Nat} {p : Pl} (h : Hi B p) (hc : C ≤ B) : Hi C p := ⟨fun ad e => Nat.le_trans hc (h.1 ad e), fun ad e => Nat.le_trans hc (h.2 ad e)⟩
theorem PlOk.butD {D B : Nat} {w w' : World} {p : Pl} (h : PlOk w p) (hb : But D w w') (hi : Hi B p) (hD : D < B) : PlOk w' p :=
  ⟨Row.but h.1 hb fun ad hA _ => by have := hi.1 ad hA; omega, Row.but h.2 hb fun ad hA _ => by have := hi.2 ad hA; omega⟩
/-- Small statements in a slice, and lists, of the call's own. -/
structure LGot (w : World) (B : Nat) (v : Value) (l : List Pl) : Prop where
  own : LOwn w B v l
  hi : ∀ p ∈ l, Hi B p
  small : ∀ p ∈ l, Small p.s
theorem LGot.nil (w : World) (B : Nat) : LGot w B (.slice none 0 0) [] := ⟨LOwn.nil _ _, fun _ h => (nomatch h), fun _ h => (nomatch h)⟩
theorem LGot.but {w w' : World} {B D : Nat} {v : Value} {l : List Pl} (h : LGot w B v l) (hb : But D w w') (hD : D < B) : LGot w' B v l :=
  ⟨⟨own_but h.own.own hb hD, fun p hp => ⟨(h.own.ok p hp).1.butD hb (h.hi p hp) hD, (h.own.ok p hp).2⟩⟩, h.hi, h.small⟩
/-- Within a round: the dice are there, and nothing else that was there has turned. -/
structure Rnd (L D : Nat) (t : List Int) (w x : World) : Prop where
  but : But D w x
  dice : ∃ k, DiceAt x L D t k
theorem Rnd.later {L D : Nat} {t : List Int} {w x y : World} (h : Rnd L D t w x) (hb : Later x y) : Rnd L D t w y := ⟨h.but.trans (But.of hb), by obtain ⟨k, hk⟩ := h.dice; exact ⟨k, hk.later hb⟩⟩
theorem Rnd.gave {L D : Nat} {t : List Int} {w x y : World} (h : Rnd L D t w x) (hg : Gave L D t x y) : Rnd L D t w y := ⟨h.but.trans hg.2, hg.1⟩
theorem Rnd.lt {L D : Nat} {t : List Int} {w x : World} (h : Rnd L D t w x) : D < x.heap.size := by obtain ⟨k, hk⟩ := h.dice; exact hk.lt
theorem Rnd.row {L D : Nat} {t : List Int} {w x : World} (h : Rnd L D t w x) (g : Nat) (hg : w.heap.size ≤ g) (hD : D < w.heap.size) (cs : Array Value) : Rnd L D t w (x.setRow g cs) := by
  obtain ⟨k, hk⟩ := h.dice
  exact ⟨⟨h.but.os, h.but.tape, h.but.output, by rw [setRow_size]; exact h.but.size, fun i hi hne => (setRow_other x g i cs (by omega)).trans (h.but.block i hi hne)⟩, k, hk.but (But.of_row _ _ _) (by omega) (by have := hk.low; omega)⟩
theorem nextP_small {au : Int} {l : List Stm} {s : Stm} (h : Small s) : Small (nextP au l s).1 := by
  have hn : Small noStm := ⟨by decide, by decide, by decide, by decide, by decide, by decide⟩
  unfold nextP
  split
  · exact hn
  · split
    · exact hn
    · split
      · exact hn
      · split
        · exact seal_small7 (draft_small h)
        · exact hn
/-- The dice's statement. -/
theorem dstmP_g (L D : Nat) (t : List Int) (author time : Int) (w : World) (h : ∃ k, DiceAt w L D t k) (ha : 0 ≤ author ∧ author ≤ 1000) (ht : 0 ≤ time ∧ time ≤ 1000) :
    Calls Try.prog 54 #[.pointer (some ⟨D, 0, none⟩), .int .i64 author, .int .i64 time] w fun e w' => ∃ p : Pl, e = .returned (.agg p.arr) ∧ PlOk w' p ∧ Hi w.heap.size p ∧ Small p.s ∧ Gave L D t w w' ∧ p.s.author = author ∧ p.s.time = time ∧ p.s.number = 0 := by
  refine (dstm_t L D t author time w h ha ht).mono ?_
  rintro e w' ⟨s, A, n, c, B, m, k, he, h1, h2, h3, h4, h5, h6, h7, h8, h9, h10, h11, h12⟩
  exact ⟨⟨s, A, n, c, B, m, k⟩, he, ⟨h1, h2⟩, ⟨fun ad e => (h3 ad e).1, fun ad e => (h4 ad e).1⟩, ⟨by show s.prev.size ≤ _; omega, by show s.list.length ≤ _; omega, by show s.pins.length ≤ _; omega, by show (pinsBs s.pins).length ≤ _; omega, by show s.body.size ≤ _; omega, by show s.dig.size ≤ _; omega⟩, h11, h12⟩
/-- Their times lie from 0 to b. -/
def TimL (b : Int) (l : List Pl) : Prop := ∀ p ∈ l, 0 ≤ p.s.time ∧ p.s.time ≤ b
theorem TimL.mono {b c : Int} {l : List Pl} (h : TimL b l) (hc : b ≤ c) : TimL c l := fun p hp => ⟨(h p hp).1, by have := (h p hp).2; omega⟩
theorem TimL.app {b : Int} {l m : List Pl} (h : TimL b l) (k : TimL b m) : TimL b (l ++ m) := fun p hp => by
  rcases List.mem_append.1 hp with hp | hp
  · exact h p hp
  · exact k p hp
theorem TimL.one {b : Int} {p : Pl} (h : 0 ≤ p.s.time ∧ p.s.time ≤ b) : TimL b [p] := fun q hq => by rw [List.mem_singleton.1 hq]; exact h
theorem nextP_time {au : Int} {l : List Stm} {s : Stm} : (nextP au l s).2 = 0 → (nextP au l s).1.time = s.time := by
  unfold nextP
  split
  · intro h; exact absurd h (by decide)
  · split
    · intro h; exact absurd h (by decide)
    · split
      · intro h; exact absurd h (by decide)
      · split
        · intro _; show (draftR au l s).time = s.time; unfold draftR; split <;> rfl
        · rename_i hne; intro h; exact absurd h hne
def resignPl (au time : Int) : Pl := ⟨⟨au, 0, ⟨#[]⟩, time, 3, 0, 0, 0, [], [], ⟨#[]⟩, 0, ⟨#[]⟩⟩, none, 0, 0, none, 0, 0⟩
theorem resign_ok (w : World) (au time : Int) : PlOk w (resignPl au time) := ⟨Row.nilRow _ _, Row.nilRow _ _⟩
theorem resign_hi (B : Nat) (au time : Int) : Hi B (resignPl au time) := ⟨fun _ h => (nomatch h), fun _ h => (nomatch h)⟩
theorem resign_small (au time : Int) : Small (resignPl au time).s := ⟨Nat.zero_le _, Nat.zero_le _, Nat.zero_le _, by show (pinsBs []).length ≤ _; decide, Nat.zero_le _, Nat.zero_le _⟩
set_option maxRecDepth 100000 in
set_option maxHeartbeats 4000000 in
theorem chain_g (L D : Nat) (t : List Int) (au : Int) (most : Nat) (w : World) (h : ∃ k, DiceAt w L D t k) (ha : 0 ≤ au ∧ au ≤ 1000) (hm : most ≤ 20) :
    Calls Try.prog 39 #[.pointer (some ⟨D, 0, none⟩), .int .i64 au, .int .i64 most] w fun e w' => ∃ v l, e = .returned v ∧ LGot w' w.heap.size v l ∧ l.length ≤ most ∧ Gave L D t w w' ∧ TimL (10 + 20 * (most : Int)) l := by
  have hDw : D < w.heap.size := by obtain ⟨k, hk⟩ := h; exact hk.lt
  have HR0 : Hid (Rnd L D t w w) := Lib.hid ⟨But.refl _ _, h⟩
  clear h
  go_enter Try.func39, Try.ntmps39
  go_wp2_with fail
  refine (next_g L D t 10 w HR0.out.dice (by omega) (by omega)).mono ?_
  rintro e w1 ⟨T0, rfl, hT0, hT1, hg⟩
  have HR1 := Lib.hid (HR0.out.gave hg)
  clear hg HR0
  go_wp2_with fail
  refine (next_g L D t ((most : Int) + 1) w1 HR1.out.dice (by omega) (by omega)).mono ?_
  rintro e w2 ⟨N0, rfl, hN0, hN1, hg⟩
  have HR2 := Lib.hid (HR1.out.gave hg)
  clear hg HR1
  obtain ⟨N, rfl⟩ : ∃ N : Nat, N0 = (N : Int) := ⟨N0.toNat, by omega⟩
  go_wp2_with fail
  go_loopw [7, 8, 9] (fun v i8 i9 wr => ∃ (m : Nat) (tm : Int) (l' : List Pl), m ≤ N ∧ i9 = .int .i64 m ∧ i8 = .int .i64 tm ∧ (0 ≤ tm ∧ tm + 20 * (m : Int) ≤ 10 + 20 * (N : Int)) ∧ l'.length + m ≤ N ∧ Hid (TimL (10 + 20 * (N : Int)) l') ∧ Hid (LGot wr w.heap.size v l' ∧ Rnd L D t w wr)) (fun _ _ i9 _ => (intOf i9).toNat)
  case atStart => exact ⟨N, T0, [], Nat.le_refl _, rfl, rfl, ⟨by omega, by omega⟩, by simp, Lib.hid (fun _ h => (nomatch h)), Lib.hid ⟨LGot.nil _ _, HR2.out⟩⟩
  case round =>
    obtain ⟨m, tm, l', hmN, rfl, rfl, htm, hlm, HTL, HQ⟩ := hrel
    clear HR2
    have htm0 := htm.1; have htm1 := htm.2
    obtain ⟨A1, c1, hv, -⟩ := HQ.out.1.own.row
    subst hv
    by_cases hm0 : 0 < m
    · have hm2 : (0 : Int) < (m : Int) := by omega
      have hwr : w.heap.size ≤ wr.heap.size := HQ.out.2.but.size
      have HW : Hid (Rnd L D t wr wr) := Lib.hid ⟨But.refl _ _, HQ.out.2.dice⟩
      have HO4 : Hid (Row (wr.alloc (.cells #[.int .i64 1, .int .i64 0, .int .i64 5, .int .i64 20] 3)) (some ⟨wr.heap.size, 0, none⟩) 4 4 1 (intsV [1, 0, 5, 20])) := Lib.hid (Row.of_block (heap_alloc_new _ _) rfl)
      have HR1 := Lib.hid (HW.out.later (one_new wr (.cells #[.int .i64 1, .int .i64 0, .int .i64 5, .int .i64 20] 3)))
      go_wp2_with fail
      refine (of_g L D t (some ⟨wr.heap.size, 0, none⟩) 4 4 [1, 0, 5, 20] _ HR1.out.dice HO4.out (fun ad e => by injection e with e; have := HW.out.lt; rw [← e]; show wr.heap.size ≠ D; omega) (by omega) (by omega)).mono ?_
      rintro e x1 ⟨dv, rfl, hdv, hg⟩
      have hdv0 : 0 ≤ dv ∧ dv ≤ 20 := by
        simp only [List.mem_cons, List.not_mem_nil, or_false] at hdv
        omega
      have hdv1 := hdv0.1; have hdv2 := hdv0.2
      have HR2 := Lib.hid (HR1.out.gave hg)
      clear hg HR1 HO4 hdv hdv0
      have hs0 : 0 ≤ tm + dv := by omega
      have hs1 : tm + dv ≤ 1000 := by omega
      have hs2 : tm + dv ≤ 10 + 20 * (N : Int) := by omega
      go_wp2_with fail
      generalize hT : tm + dv = T at *
      refine (dstmP_g L D t au T x1 HR2.out.dice ha ⟨hs0, hs1⟩).mono ?_
      rintro e x2 ⟨p, rfl, hpo, hhi, hsm, hg, -, hpt, -⟩
      have HPT := Lib.hid hpt; clear hpt
      have HR3 := Lib.hid (HR2.out.gave hg)
      have HPO := Lib.hid hpo; have HPS := Lib.hid hsm
      have HHI := Lib.hid (hhi.mono HR2.out.but.size)
      clear hpo hhi hsm hg HR2
      go_upto_region 8 with (refine wpList_store_new rfl 30 (.tmp 10) (.tmp 31) rfl 30 _ p.arr rfl rfl p.info rfl p.one ?_)
      have HNW := Lib.hid (one_new x2 (.cells p.arr 30))
      have HG : Hid ((x2.alloc (.cells p.arr 30)).heap[x2.heap.size]? = some (.cells p.arr 30 (0, 0))) := Lib.hid (heap_alloc_new _ _)
      have HR4 := Lib.hid (HR3.out.later HNW.out)
      have hgw : wr.heap.size ≤ x2.heap.size := HR3.out.but.size
      have hDr : D < wr.heap.size := HW.out.lt
      replace HPO := Lib.hid (HPO.out.later HNW.out)
      clear HNW HR3
      generalize x2.alloc (.cells p.arr 30) = x3 at *
      generalize x2.heap.size = g at *
      by_cases hm1 : m = 1
      · have b1 : ((m : Int) == 1) = true := by rw [hm1]; rfl
        have b2 : (m == 1) = true := by rw [hm1]; rfl
        go_wp2_with fail
        refine (one_g L D t 6 x3 HR4.out.dice (by omega) (by omega)).mono ?_
        rintro e x4 ⟨rb, rfl, hg⟩
        have HR5 := Lib.hid (HR4.out.gave hg)
        have HG5 : Hid (x4.heap[g]? = some (.cells p.arr 30 (0, 0))) := Lib.hid ((hg.2.block g (Array.getElem?_eq_some_iff.1 HG.out).1 (by omega)).trans HG.out)
        replace HPO := Lib.hid (HPO.out.butD hg.2 HHI.out hDr)
        clear hg HR4 HG
        cases rb
        · go_upto_region 10 with fail
          clear b1 b2
          have HLW := Lib.hid (HQ.out.1.but HR5.out.but hDw)
          obtain ⟨A7, c7, hv7, hr7⟩ := HLW.out.own.row
          injection hv7 with hv7 _ hc7
          subst hv7 hc7
          have HLR := Lib.hid hr7; clear hr7
          have HRNX := Lib.hid (nextP_any au A1 l'.length c1 l' p x4 HLR.out (by omega) HLW.out.small HPO.out HPS.out)
          have HSN := Lib.hid (nextP_small (au := au) (l := l'.map (·.s)) HPS.out)
          have HNT := Lib.hid (nextP_time (au := au) (l := l'.map (·.s)) (s := p.s))
          generalize nextP au (l'.map (·.s)) p.s = NX at HRNX HSN HNT
          clear HLR
          go_wp2_with (refine wpList_load_row rfl 30 (.tmp 10) rfl g rfl 30 p.arr (0, 0) _ HG5.out Try.underlying30 rfl p.info ?_)
          refine HRNX.out.mono ?_
          clear HRNX
          rintro e y1 ⟨q, rfl, hqs, hqo, hna, hnb, hb⟩
          have HS1 := Lib.hid (HR5.out.later hb)
          have HQS : Hid (Small q.s) := Lib.hid (by rw [hqs]; exact HSN.out)
          have HQT : Hid (NX.2 = 0 → q.s.time = T) := Lib.hid fun h => by rw [hqs, HNT.out h, HPT.out]
          have HQO := Lib.hid hqo
          have hxw : w.heap.size ≤ x4.heap.size := Nat.le_trans hwr HR5.out.but.size
          have HQH : Hid (Hi w.heap.size q) := Lib.hid ⟨fun ad e => Nat.le_trans hxw (hna ad e), fun ad e => Nat.le_trans hxw (hnb ad e)⟩
          have HCL := Lib.hid (clear_new (q := q) hna hnb (own_lt HLW.out.own.own))
          have HL1 : Hid (LGot y1 w.heap.size (.slice A1 l'.length c1) l') := Lib.hid (HLW.out.but (But.of (D := D) hb) hDw)
          clear hqs hqo hna hnb hb HLW HG5 HPO HHI HPS HR5 HSN HNT HPT
          go_upto_region 11 with (refine wpList_store_new rfl 30 (.tmp 11) (.tmp 46) rfl 30 _ q.arr rfl rfl q.info rfl q.one ?_)
          have HNW := Lib.hid (one_new y1 (.cells q.arr 30))
          have HG8 : Hid ((y1.alloc (.cells q.arr 30)).heap[y1.heap.size]? = some (.cells q.arr 30 (0, 0))) := Lib.hid (heap_alloc_new _ _)
          have HS2 := Lib.hid (HS1.out.later HNW.out)
          have HL2 : Hid (LGot (y1.alloc (.cells q.arr 30)) w.heap.size (.slice A1 l'.length c1) l') := Lib.hid (HL1.out.but (But.of (D := D) HNW.out) hDw)
          replace HQO := Lib.hid (HQO.out.later HNW.out)
          clear HS1 HNW HL1
          generalize y1.alloc (.cells q.arr 30) = y2 at *
          generalize y1.heap.size = g8 at *
          generalize NX.2 = er at *
          by_cases her : er = 0
          · have b3 : (er == 0) = true := by rw [her]; rfl
            have HTQ := Lib.hid (HQT.out her)
            clear her
            have hvs : q.arr.size = 13 := rfl
            go_wp2_with (first | (refine wpList_load_row rfl 30 (.tmp 11) rfl g8 rfl 30 q.arr (0, 0) _ HG8.out Try.underlying30 rfl q.info ?_) | (at_builtin; (first | rw [fold13] | (rw [← hvs, fold13])); go_must (refine wpList_app_newK y2 rfl (.tmp 50) (.tmp 52) 22 30 rfl w.heap.size Try.underlying22 stm_info rfl _ l'.length (plsC l') HL2.out.own.own rfl 1 q.arr rfl q.ones rfl rfl (by unfold maxLen; omega) (by omega) (Nat.le_trans hwr HS2.out.but.size) ?_); intro x3 z3 ho hb hk1 hk2; rw [show q.arr.toList = plsC [q] from rfl] at ho; have HO3 := Lib.hid (HL2.out.own.app (m := [q]) (fun s hs => by rw [List.mem_singleton.1 hs]; exact ⟨HQO.out, HCL.out⟩) ho hk1 hk2); have HB3 := Lib.hid hb; clear ho hb hk1 hk2))
            have HGT : Hid (LGot z3 w.heap.size x3 (l' ++ [q])) := Lib.hid ⟨HO3.out, fun s hs => by
              rcases List.mem_append.1 hs with hs | hs
              · exact HL2.out.hi s hs
              · rw [List.mem_singleton.1 hs]; exact HQH.out, fun s hs => by
              rcases List.mem_append.1 hs with hs | hs
              · exact HL2.out.small s hs
              · rw [List.mem_singleton.1 hs]; exact HQS.out⟩
            have HRT : Hid (Rnd L D t w z3) := Lib.hid ⟨(HQ.out.2.but.trans HS2.out.but).grow HB3.out, by obtain ⟨k, hk⟩ := HS2.out.dice; exact ⟨k, hk.below HB3.out hDw⟩⟩
            refine ⟨⟨m - 1, T, l' ++ [q], by omega, by go_num, rfl, ⟨by omega, by omega⟩, by rw [List.length_append]; show l'.length + 1 + (m - 1) ≤ N; omega, Lib.hid (HTL.out.app (TimL.one (by rw [HTQ.out]; exact ⟨hs0, hs2⟩))), Lib.hid ⟨HGT.out, HRT.out⟩⟩, by simp [intOf]; omega⟩
          · have b3 : (er == 0) = false := by rw [beq_eq_false_iff_ne]; exact her
            clear her
            go_wp2_with fail
            refine ⟨⟨m - 1, T, l', by omega, by go_num, rfl, ⟨by omega, by omega⟩, by omega, HTL, Lib.hid ⟨HL2.out, HQ.out.2.but.trans HS2.out.but, HS2.out.dice⟩⟩, by simp [intOf]; omega⟩
        · go_upto_region 10 with (refine wpList_store_row rfl 30 (.tmp 10) (.tmp 40) rfl g (resignPl au T).arr rfl rfl 30 _ HG5.out (resignPl au T).info rfl (resignPl au T).one ?_)
          have HR6 := Lib.hid (HR5.out.row g hgw hDr (resignPl au T).arr)
          have HG6 := Lib.hid (setRow_heap x4 g _ (resignPl au T).arr _ _ HG5.out)
          have HPO6 := Lib.hid (resign_ok (x4.setRow g (resignPl au T).arr) au T)
          have HHI6 := Lib.hid (resign_hi wr.heap.size au T); have HPS6 := Lib.hid (resign_small au T)
          have HPT6 : Hid ((resignPl au T).s.time = T) := Lib.hid rfl
          clear b1 b2 HR5 HG5 HPO HHI HPS HPT
          generalize x4.setRow g (resignPl au T).arr = x5 at *
          generalize resignPl au T = rp at *
          have HLW := Lib.hid (HQ.out.1.but HR6.out.but hDw)
          obtain ⟨A7, c7, hv7, hr7⟩ := HLW.out.own.row
          injection hv7 with hv7 _ hc7
          subst hv7 hc7
          have HLR := Lib.hid hr7; clear hr7
          have HRNX := Lib.hid (nextP_any au A1 l'.length c1 l' rp x5 HLR.out (by omega) HLW.out.small HPO6.out HPS6.out)
          have HSN := Lib.hid (nextP_small (au := au) (l := l'.map (·.s)) HPS6.out)
          have HNT := Lib.hid (nextP_time (au := au) (l := l'.map (·.s)) (s := rp.s))
          generalize nextP au (l'.map (·.s)) rp.s = NX at HRNX HSN HNT
          clear HLR
          go_wp2_with (refine wpList_load_row rfl 30 (.tmp 10) rfl g rfl 30 rp.arr (0, 0) _ HG6.out Try.underlying30 rfl rp.info ?_)
          refine HRNX.out.mono ?_
          clear HRNX
          rintro e y1 ⟨q, rfl, hqs, hqo, hna, hnb, hb⟩
          have HS1 := Lib.hid (HR6.out.later hb)
          have HQS : Hid (Small q.s) := Lib.hid (by rw [hqs]; exact HSN.out)
          have HQT : Hid (NX.2 = 0 → q.s.time = T) := Lib.hid fun h => by rw [hqs, HNT.out h, HPT6.out]
          have HQO := Lib.hid hqo
          have hxw : w.heap.size ≤ x5.heap.size := Nat.le_trans hwr HR6.out.but.size
          have HQH : Hid (Hi w.heap.size q) := Lib.hid ⟨fun ad e => Nat.le_trans hxw (hna ad e), fun ad e => Nat.le_trans hxw (hnb ad e)⟩
          have HCL := Lib.hid (clear_new (q := q) hna hnb (own_lt HLW.out.own.own))
          have HL1 : Hid (LGot y1 w.heap.size (.slice A1 l'.length c1) l') := Lib.hid (HLW.out.but (But.of (D := D) hb) hDw)
          clear hqs hqo hna hnb hb HLW HG6 HPO6 HHI6 HPS6 HR6 HSN HNT HPT6
          go_upto_region 11 with (refine wpList_store_new rfl 30 (.tmp 11) (.tmp 46) rfl 30 _ q.arr rfl rfl q.info rfl q.one ?_)
          have HNW := Lib.hid (one_new y1 (.cells q.arr 30))
          have HG8 : Hid ((y1.alloc (.cells q.arr 30)).heap[y1.heap.size]? = some (.cells q.arr 30 (0, 0))) := Lib.hid (heap_alloc_new _ _)
          have HS2 := Lib.hid (HS1.out.later HNW.out)
          have HL2 : Hid (LGot (y1.alloc (.cells q.arr 30)) w.heap.size (.slice A1 l'.length c1) l') := Lib.hid (HL1.out.but (But.of (D := D) HNW.out) hDw)
          replace HQO := Lib.hid (HQO.out.later HNW.out)
          clear HS1 HNW HL1
          generalize y1.alloc (.cells q.arr 30) = y2 at *
          generalize y1.heap.size = g8 at *
          generalize NX.2 = er at *
          by_cases her : er = 0
          · have b3 : (er == 0) = true := by rw [her]; rfl
            have HTQ := Lib.hid (HQT.out her)
            clear her
            have hvs : q.arr.size = 13 := rfl
            go_wp2_with (first | (refine wpList_load_row rfl 30 (.tmp 11) rfl g8 rfl 30 q.arr (0, 0) _ HG8.out Try.underlying30 rfl q.info ?_) | (at_builtin; (first | rw [fold13] | (rw [← hvs, fold13])); go_must (refine wpList_app_newK y2 rfl (.tmp 50) (.tmp 52) 22 30 rfl w.heap.size Try.underlying22 stm_info rfl _ l'.length (plsC l') HL2.out.own.own rfl 1 q.arr rfl q.ones rfl rfl (by unfold maxLen; omega) (by omega) (Nat.le_trans hwr HS2.out.but.size) ?_); intro x3 z3 ho hb hk1 hk2; rw [show q.arr.toList = plsC [q] from rfl] at ho; have HO3 := Lib.hid (HL2.out.own.app (m := [q]) (fun s hs => by rw [List.mem_singleton.1 hs]; exact ⟨HQO.out, HCL.out⟩) ho hk1 hk2); have HB3 := Lib.hid hb; clear ho hb hk1 hk2))
            have HGT : Hid (LGot z3 w.heap.size x3 (l' ++ [q])) := Lib.hid ⟨HO3.out, fun s hs => by
              rcases List.mem_append.1 hs with hs | hs
              · exact HL2.out.hi s hs
              · rw [List.mem_singleton.1 hs]; exact HQH.out, fun s hs => by
              rcases List.mem_append.1 hs with hs | hs
              · exact HL2.out.small s hs
              · rw [List.mem_singleton.1 hs]; exact HQS.out⟩
            have HRT : Hid (Rnd L D t w z3) := Lib.hid ⟨(HQ.out.2.but.trans HS2.out.but).grow HB3.out, by obtain ⟨k, hk⟩ := HS2.out.dice; exact ⟨k, hk.below HB3.out hDw⟩⟩
            refine ⟨⟨m - 1, T, l' ++ [q], by omega, by go_num, rfl, ⟨by omega, by omega⟩, by rw [List.length_append]; show l'.length + 1 + (m - 1) ≤ N; omega, Lib.hid (HTL.out.app (TimL.one (by rw [HTQ.out]; exact ⟨hs0, hs2⟩))), Lib.hid ⟨HGT.out, HRT.out⟩⟩, by simp [intOf]; omega⟩
          · have b3 : (er == 0) = false := by rw [beq_eq_false_iff_ne]; exact her
            clear her
            go_wp2_with fail
            refine ⟨⟨m - 1, T, l', by omega, by go_num, rfl, ⟨by omega, by omega⟩, by omega, HTL, Lib.hid ⟨HL2.out, HQ.out.2.but.trans HS2.out.but, HS2.out.dice⟩⟩, by simp [intOf]; omega⟩
      · have b1 : ((m : Int) == 1) = false := by rw [beq_eq_false_iff_ne]; omega
        have b2 : (m == 1) = false := by rw [beq_eq_false_iff_ne]; exact hm1
        go_upto_region 10 with fail
        clear b1 b2
        have HLW := Lib.hid (HQ.out.1.but HR4.out.but hDw)
        obtain ⟨A7, c7, hv7, hr7⟩ := HLW.out.own.row
        injection hv7 with hv7 _ hc7
        subst hv7 hc7
        have HLR := Lib.hid hr7; clear hr7
        have HRNX := Lib.hid (nextP_any au A1 l'.length c1 l' p x3 HLR.out (by omega) HLW.out.small HPO.out HPS.out)
        have HSN := Lib.hid (nextP_small (au := au) (l := l'.map (·.s)) HPS.out)
        have HNT := Lib.hid (nextP_time (au := au) (l := l'.map (·.s)) (s := p.s))
        generalize nextP au (l'.map (·.s)) p.s = NX at HRNX HSN HNT
        clear HLR
        go_wp2_with (refine wpList_load_row rfl 30 (.tmp 10) rfl g rfl 30 p.arr (0, 0) _ HG.out Try.underlying30 rfl p.info ?_)
        refine HRNX.out.mono ?_
        clear HRNX
        rintro e y1 ⟨q, rfl, hqs, hqo, hna, hnb, hb⟩
        have HS1 := Lib.hid (HR4.out.later hb)
        have HQS : Hid (Small q.s) := Lib.hid (by rw [hqs]; exact HSN.out)
        have HQT : Hid (NX.2 = 0 → q.s.time = T) := Lib.hid fun h => by rw [hqs, HNT.out h, HPT.out]
        have HQO := Lib.hid hqo
        have hxw : w.heap.size ≤ x3.heap.size := Nat.le_trans hwr HR4.out.but.size
        have HQH : Hid (Hi w.heap.size q) := Lib.hid ⟨fun ad e => Nat.le_trans hxw (hna ad e), fun ad e => Nat.le_trans hxw (hnb ad e)⟩
        have HCL := Lib.hid (clear_new (q := q) hna hnb (own_lt HLW.out.own.own))
        have HL1 : Hid (LGot y1 w.heap.size (.slice A1 l'.length c1) l') := Lib.hid (HLW.out.but (But.of (D := D) hb) hDw)
        clear hqs hqo hna hnb hb HLW HG HPO HHI HPS HR4 HSN HNT HPT
        go_upto_region 11 with (refine wpList_store_new rfl 30 (.tmp 11) (.tmp 46) rfl 30 _ q.arr rfl rfl q.info rfl q.one ?_)
        have HNW := Lib.hid (one_new y1 (.cells q.arr 30))
        have HG8 : Hid ((y1.alloc (.cells q.arr 30)).heap[y1.heap.size]? = some (.cells q.arr 30 (0, 0))) := Lib.hid (heap_alloc_new _ _)
        have HS2 := Lib.hid (HS1.out.later HNW.out)
        have HL2 : Hid (LGot (y1.alloc (.cells q.arr 30)) w.heap.size (.slice A1 l'.length c1) l') := Lib.hid (HL1.out.but (But.of (D := D) HNW.out) hDw)
        replace HQO := Lib.hid (HQO.out.later HNW.out)
        clear HS1 HNW HL1
        generalize y1.alloc (.cells q.arr 30) = y2 at *
        generalize y1.heap.size = g8 at *
        generalize NX.2 = er at *
        by_cases her : er = 0
        · have b3 : (er == 0) = true := by rw [her]; rfl
          have HTQ := Lib.hid (HQT.out her)
          clear her
          have hvs : q.arr.size = 13 := rfl
          go_wp2_with (first | (refine wpList_load_row rfl 30 (.tmp 11) rfl g8 rfl 30 q.arr (0, 0) _ HG8.out Try.underlying30 rfl q.info ?_) | (at_builtin; (first | rw [fold13] | (rw [← hvs, fold13])); go_must (refine wpList_app_newK y2 rfl (.tmp 50) (.tmp 52) 22 30 rfl w.heap.size Try.underlying22 stm_info rfl _ l'.length (plsC l') HL2.out.own.own rfl 1 q.arr rfl q.ones rfl rfl (by unfold maxLen; omega) (by omega) (Nat.le_trans hwr HS2.out.but.size) ?_); intro x3 z3 ho hb hk1 hk2; rw [show q.arr.toList = plsC [q] from rfl] at ho; have HO3 := Lib.hid (HL2.out.own.app (m := [q]) (fun s hs => by rw [List.mem_singleton.1 hs]; exact ⟨HQO.out, HCL.out⟩) ho hk1 hk2); have HB3 := Lib.hid hb; clear ho hb hk1 hk2))
          have HGT : Hid (LGot z3 w.heap.size x3 (l' ++ [q])) := Lib.hid ⟨HO3.out, fun s hs => by
            rcases List.mem_append.1 hs with hs | hs
            · exact HL2.out.hi s hs
            · rw [List.mem_singleton.1 hs]; exact HQH.out, fun s hs => by
            rcases List.mem_append.1 hs with hs | hs
            · exact HL2.out.small s hs
            · rw [List.mem_singleton.1 hs]; exact HQS.out⟩
          have HRT : Hid (Rnd L D t w z3) := Lib.hid ⟨(HQ.out.2.but.trans HS2.out.but).grow HB3.out, by obtain ⟨k, hk⟩ := HS2.out.dice; exact ⟨k, hk.below HB3.out hDw⟩⟩
          refine ⟨⟨m - 1, T, l' ++ [q], by omega, by go_num, rfl, ⟨by omega, by omega⟩, by rw [List.length_append]; show l'.length + 1 + (m - 1) ≤ N; omega, Lib.hid (HTL.out.app (TimL.one (by rw [HTQ.out]; exact ⟨hs0, hs2⟩))), Lib.hid ⟨HGT.out, HRT.out⟩⟩, by simp [intOf]; omega⟩
        · have b3 : (er == 0) = false := by rw [beq_eq_false_iff_ne]; exact her
          clear her
          go_wp2_with fail
          refine ⟨⟨m - 1, T, l', by omega, by go_num, rfl, ⟨by omega, by omega⟩, by omega, HTL, Lib.hid ⟨HL2.out, HQ.out.2.but.trans HS2.out.but, HS2.out.dice⟩⟩, by simp [intOf]; omega⟩
    · have hm2 : ¬ (0 : Int) < (m : Int) := by omega
      go_wp2_with fail
      go_ret
      exact ⟨_, rfl, l', HQ.out.1, by omega, ⟨HQ.out.2.dice, HQ.out.2.but⟩, HTL.out.mono (by omega)⟩
end Go.Proofs.Ytdeojmgcofakeaa
/- In the midst of the dice's Spoil: a statement in a block of its own, beside a list. -/
namespace Go.Proofs.Ytdeojmgcofakeaa
open Go.RowKit
theorem wrap64_id7 (n : Int) (h : -9223372036854775808 ≤ n ∧ n ≤ 9223372036854775807) : wrap64 n = n := by unfold wrap64; omega
/-- A statement with the same lists. -/
def Pl.to (p : Pl) (s : Stm) : Pl := ⟨s, p.A, p.n, p.c, p.B, p.m, p.k⟩
/-- Its lists do not lie in block g. -/
def OffB (g : Nat) (p : Pl) : Prop := (∀ ad, p.A = some ad → 0 < p.n → ad.block ≠ g) ∧ (∀ ad, p.B = some ad → 0 < p.m → ad.block ≠ g)
theorem PlOk.offB {x : World} {p : Pl} (h : PlOk x p) {g : Nat} (hg : x.heap.size ≤ g) : OffB g p := ⟨fun ad hA h0 => by have := Row.lt h.1 (by decide) ad hA h0; omega, fun ad hA h0 => by have := Row.lt h.2 (by decide) ad hA h0; omega⟩
theorem OffB.high {p : Pl} {g B : Nat} (h : g < B) (hA : ∀ ad, p.A = some ad → B ≤ ad.block) (hB : ∀ ad, p.B = some ad → B ≤ ad.block) : OffB g p := ⟨fun ad e _ => by have := hA ad e; omega, fun ad e _ => by have := hB ad e; omega⟩
theorem PlOk.turn {x y : World} {p : Pl} {g : Nat} (h : PlOk x p) (ho : OffB g p) (hb : But g x y) : PlOk y p := ⟨Row.but h.1 hb fun ad hA h0 => ho.1 ad hA h0, Row.but h.2 hb fun ad hA h0 => ho.2 ad hA h0⟩
theorem Rnd.turn {L D : Nat} {t : List Int} {w x y : World} (h : Rnd L D t w x) {g : Nat} (hg : w.heap.size ≤ g) (hD : D < w.heap.size) (hb : But g x y) : Rnd L D t w y := by
  obtain ⟨k, hk⟩ := h.dice
  exact ⟨⟨hb.os.trans h.but.os, hb.tape.trans h.but.tape, hb.output.trans h.but.output, Nat.le_trans h.but.size hb.size, fun i hi hne => (hb.block i (Nat.lt_of_lt_of_le hi h.but.size) (by omega)).trans (h.but.block i hi hne)⟩, k, hk.but hb (by omega) (by have := hk.low; omega)⟩
theorem own_keepL {w w' : World} {B : Nat} {e : TypeId} {sz : Nat} {v : Value} {n : Nat} {xs : List Value} (h : w.ownsRow B e sz v n xs) (hk : ∀ g, v.ownBlock = some g → w'.heap[g]? = w.heap[g]?) : w'.ownsRow B e sz v n xs := by
  refine ⟨h.1, ?_⟩
  rcases h.2 with hn | ⟨g, cap, cur, rfl, hg, hgg, rest⟩
  · exact .inl hn
  · exact .inr ⟨g, cap, cur, rfl, hg, (hk g rfl).trans hgg, rest⟩
/-- Neither the slice nor a list lies in block g. -/
def LFree (g : Nat) (v : Value) (l : List Pl) : Prop := v.ownBlock ≠ some g ∧ ∀ p ∈ l, OffB g p
theorem LGot.free {w : World} {B : Nat} {v : Value} {l : List Pl} (h : LGot w B v l) {g : Nat} (hg : w.heap.size ≤ g) : LFree g v l := ⟨fun e => by have := own_lt h.own.own _ e; omega, fun p hp => (h.own.ok p hp).1.offB hg⟩
theorem LGot.turn {x y : World} {B g : Nat} {v : Value} {l : List Pl} (h : LGot x B v l) (hf : LFree g v l) (hb : But g x y) : LGot y B v l :=
  ⟨⟨own_keepL h.own.own fun k hk => hb.block k (own_lt h.own.own _ hk) fun e => hf.1 (by rw [hk, e]), fun p hp => ⟨(h.own.ok p hp).1.turn (hf.2 p hp) hb, (h.own.ok p hp).2⟩⟩, h.hi, h.small⟩
/-- The statement in block g, since a round began in wr. -/
structure SpM (L D : Nat) (t : List Int) (wr : World) (g : Nat) (p : Pl) (x : World) : Prop where
  rnd : Rnd L D t wr x
  cur : x.heap[g]? = some (.cells p.arr 30 (0, 0))
  ok : PlOk x p
  off : OffB g p
  hi : Hi wr.heap.size p
  small : Small p.s
  ge : wr.heap.size ≤ g
  dlt : D < wr.heap.size
section
variable {L D : Nat} {t : List Int} {wr x y : World} {g : Nat} {p : Pl}
theorem SpM.lt (h : SpM L D t wr g p x) : g < x.heap.size := (Array.getElem?_eq_some_iff.1 h.cur).1
theorem SpM.later (h : SpM L D t wr g p x) (hb : Below x.heap.size x y) : SpM L D t wr g p y := ⟨h.rnd.later hb, (hb.block _ h.lt).trans h.cur, h.ok.later hb, h.off, h.hi, h.small, h.ge, h.dlt⟩
theorem SpM.gave (h : SpM L D t wr g p x) (hg : Gave L D t x y) : SpM L D t wr g p y := ⟨h.rnd.gave hg, (hg.2.block g h.lt (by have := h.ge; have := h.dlt; omega)).trans h.cur, h.ok.butD hg.2 h.hi h.dlt, h.off, h.hi, h.small, h.ge, h.dlt⟩
theorem SpM.row (h : SpM L D t wr g p x) (q : Pl) (hq : PlOk x q) (ho : OffB g q) (hh : Hi wr.heap.size q) (hs : Small q.s) : SpM L D t wr g q (x.setRow g q.arr) :=
  ⟨h.rnd.turn h.ge h.dlt (But.of_row _ _ _), setRow_heap _ _ _ _ _ _ h.cur, hq.turn ho (But.of_row _ _ _), ho, hh, hs, h.ge, h.dlt⟩
theorem SpM.set (h : SpM L D t wr g p x) (s' : Stm) (i : Nat) (v : Value) (ha : (p.to s').arr = p.arr.setIfInBounds i v) (hl : s'.list = p.s.list) (hp : s'.pins = p.s.pins) (hs : Small s') : SpM L D t wr g (p.to s') (x.setCell ⟨g, i, none⟩ v) :=
  ⟨h.rnd.turn h.ge h.dlt (But.set _ _ _), by rw [ha]; exact heap_setCell_same _ _ _ _ _ _ h.cur, by
    have h1 := h.ok.turn h.off (But.set x i v)
    exact ⟨by show IRow _ p.A p.n p.c s'.list; rw [hl]; exact h1.1, by show PRow _ p.B p.m p.k s'.pins; rw [hp]; exact h1.2⟩, h.off, h.hi, hs, h.ge, h.dlt⟩
/-- Time and kind stay. -/
def FC (g : Nat) (a b : World) : Prop := b.cell? ⟨g, 3, none⟩ = a.cell? ⟨g, 3, none⟩ ∧ b.cell? ⟨g, 4, none⟩ = a.cell? ⟨g, 4, none⟩
theorem FC.refl (a : World) : FC g a a := ⟨rfl, rfl⟩
theorem FC.trans {a b c : World} (h : FC g a b) (k : FC g b c) : FC g a c := ⟨k.1.trans h.1, k.2.trans h.2⟩
theorem SpM.c3 (h : SpM L D t wr g p x) : x.cell? ⟨g, 3, none⟩ = some (.int .i64 p.s.time) := (cell_of_row _ _ 3 _ _ _ h.cur).trans rfl
theorem SpM.c4 (h : SpM L D t wr g p x) : x.cell? ⟨g, 4, none⟩ = some (.int .i64 p.s.kind) := (cell_of_row _ _ 4 _ _ _ h.cur).trans rfl
theorem SpM.fc {q : Pl} (h : SpM L D t wr g p x) (h' : SpM L D t wr g q y) (ht : q.s.time = p.s.time) (hk : q.s.kind = p.s.kind) : FC g x y := ⟨by rw [h.c3, h'.c3, ht], by rw [h.c4, h'.c4, hk]⟩
end
end Go.Proofs.Ytdeojmgcofakeaa
