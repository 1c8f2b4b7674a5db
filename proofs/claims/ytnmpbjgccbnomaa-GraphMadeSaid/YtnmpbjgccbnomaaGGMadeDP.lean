import Derived.Test.YtnmpbjgccbnomaaPackAM
import Derived.Test.YtnmpbjgccbnomaaPackAG
import Derived.Deep.CutBlock
import Derived.Deep.DeepCutAuto
/- The walk of the law GraphMade, over any program that gives what layer 11 asks. -/
namespace Go.Proofs.Ytnmpbjgccbnomaa
open Go.RowKit
theorem row4 {w : World} {g : Nat} {fr : Nat × Nat} (h : w.heap[g]? = some (.cells #[.int .i64 1, .int .i64 3, .int .i64 0, .int .i64 4] 3 fr)) : Row w (some ⟨g, 0, none⟩) 4 4 1 (intsV [1, 3, 0, 4]) := by
 refine ⟨rfl, Nat.le_refl _, fun e => (by cases e), fun ad e h0 => ?_⟩
 injection e with e; subst e
 refine ⟨g, 0, rfl, fun i hi => ?_⟩
 have hi4 : i < 4 := hi
 rw [Nat.zero_add, cell_of_row _ _ i _ _ _ h]
 rcases i with _ | _ | _ | _ | i <;> first | rfl | omega
/-- Whatever comes. -/
structure AnyW (_a _b : World) : Prop where
 mk0 ::
theorem AnyW.all (a b : World) : AnyW a b := ⟨⟩
theorem step_set {w : World} {ga : Nat} {T : TypeId} {cs : Array Value} (k : Nat) (d : Value) (h : w.heap[ga]? = some (.cells cs T (0, 0))) :
  ∃ w', w.setCell ⟨ga, k, none⟩ d = w' ∧ w'.heap[ga]? = some (.cells (cs.setIfInBounds k d) T (0, 0)) ∧ (∀ q, q ≠ ga → w'.heap[q]? = w.heap[q]?) ∧ Below ga w w' :=
 ⟨_, rfl, heap_setCell_same _ _ _ _ _ _ h, fun q hq => Below.heap_setCell w ⟨ga, k, none⟩ d q hq, (Below.refl ga w).setCell (p := ⟨ga, k, none⟩) (Nat.le_refl _) _⟩
theorem six_set {w : World} {ga : Nat} {T : TypeId} {c0 c1 c2 c3 c4 c5 d0 d1 d2 d3 d4 d5 : Value} {X : List Value} (h : w.heap[ga]? = some (.cells (c0 :: c1 :: c2 :: c3 :: c4 :: c5 :: X).toArray T (0, 0))) :
  ((((((w.setCell ⟨ga, 0, none⟩ d0).setCell ⟨ga, 1, none⟩ d1).setCell ⟨ga, 2, none⟩ d2).setCell ⟨ga, 3, none⟩ d3).setCell ⟨ga, 4, none⟩ d4).setCell ⟨ga, 5, none⟩ d5).drew.heap[ga]? = some (.cells (d0 :: d1 :: d2 :: d3 :: d4 :: d5 :: X).toArray T (0, 0)) ∧ (∀ q, q ≠ ga → ((((((w.setCell ⟨ga, 0, none⟩ d0).setCell ⟨ga, 1, none⟩ d1).setCell ⟨ga, 2, none⟩ d2).setCell ⟨ga, 3, none⟩ d3).setCell ⟨ga, 4, none⟩ d4).setCell ⟨ga, 5, none⟩ d5).drew.heap[q]? = w.heap[q]?) ∧ Below ga w ((((((w.setCell ⟨ga, 0, none⟩ d0).setCell ⟨ga, 1, none⟩ d1).setCell ⟨ga, 2, none⟩ d2).setCell ⟨ga, 3, none⟩ d3).setCell ⟨ga, 4, none⟩ d4).setCell ⟨ga, 5, none⟩ d5).drew := by
 obtain ⟨w1, e1, h1, k1, b1⟩ := step_set 0 d0 h
 rw [e1]
 obtain ⟨w2, e2, h2, k2, b2⟩ := step_set 1 d1 h1
 rw [e2]
 obtain ⟨w3, e3, h3, k3, b3⟩ := step_set 2 d2 h2
 rw [e3]
 obtain ⟨w4, e4, h4, k4, b4⟩ := step_set 3 d3 h3
 rw [e4]
 obtain ⟨w5, e5, h5, k5, b5⟩ := step_set 4 d4 h4
 rw [e5]
 obtain ⟨w6, e6, h6, k6, b6⟩ := step_set 5 d5 h5
 rw [e6]
 refine ⟨?_, fun q hq => ?_, ((((((b1.trans b2).trans b3).trans b4).trans b5).trans b6)).drew⟩
 ·
  show w6.heap[ga]? = _
  rw [h6]
  simp
 ·
  show w6.heap[q]? = _
  rw [k6 q hq, k5 q hq, k4 q hq, k3 q hq, k2 q hq, k1 q hq]
theorem own_neqT {w : World} {B : Nat} {e : TypeId} {sz : Nat} {v : Value} {n : Nat} {xs : List Value} (h : w.ownsRow B e sz v n xs) {g : Nat} {cs : Array Value} {T : TypeId} {fr : Nat × Nat} (hg : w.heap[g]? = some (.cells cs T fr)) (hne : e ≠ T) : ∀ q, v.ownBlock = some q → q ≠ g := by
 intro q h1 h2
 subst h2
 rcases h.2 with ⟨hn, _⟩ | ⟨a, cap, cur, rfl, ha, hgg, rest⟩
 ·
  subst hn; cases h1
 have e1 : a = q := by injection h1
 subst e1
 rw [hgg] at hg
 injection hg with hg
 injection hg with _ e2 _
 exact hne e2
theorem own_twoT {w : World} {B B' : Nat} {e e' : TypeId} {sz sz' : Nat} {v v' : Value} {n n' : Nat} {xs xs' : List Value} (h : w.ownsRow B e sz v n xs) (h' : w.ownsRow B' e' sz' v' n' xs') (hne : e ≠ e') : ∀ q, v.ownBlock = some q → v'.ownBlock ≠ some q := by
 intro q h1 h2
 rcases h'.2 with ⟨hn, _⟩ | ⟨b, cap', cur', rfl, hg', hgg', rest'⟩
 ·
  subst hn; cases h2
 have e1 : b = q := by injection h2
 subst e1
 exact own_neqT h hgg' hne b h1 rfl
theorem own_rowE {w : World} {B : Nat} {A : Option Addr} {n c : Nat} {l : List Edg} (h : w.ownsRow B 27 3 (.slice A n c) n (rowC Edg.cells l)) : ERow w A n c l := by
 obtain ⟨A7, c7, he, hr⟩ := Row.of_own h
 injection he with e1 e2 e3
 subst e1 e3
 exact hr
theorem own_rowI {w : World} {B : Nat} {A : Option Addr} {n c : Nat} {l : List Int} (h : w.ownsRow B 3 1 (.slice A n c) n (intsV l)) : IRow w A n c l := by
 obtain ⟨A7, c7, he, hr⟩ := Row.of_own h
 injection he with e1 e2 e3
 subst e1 e3
 exact hr
set_option maxRecDepth 100000 in
set_option maxHeartbeats 40000000 in
theorem gmade_any (H : GraphS) (TA : Option Addr) (tn tc : Nat) (t : List Int) (nn : Int) (w : World) (ht : IRow w TA tn tc t) :
  Calls Try.prog 4 #[.slice TA tn tc, .int .i64 nn] w (SaysL (.bool true) w) := by
 have HAW : Hid (∀ y, Calls Try.prog 6 #[] y (SaysL (.bool true) y)) := Lib.hid fun y => awake11_any H.base y
 have HT := Lib.hid ht; clear ht
 go_enter Try.func4, Try.ntmps4
 go_wp2_with fail
 refine (light_any TA tn tc w).mono ?_
 rintro e w0 ⟨rfl, rfl⟩
 by_cases hn : tn ≤ 400
 ·
  have gd : decide (tn ≤ 400) = true := decide_eq_true hn
  go_wp2_with fail
  clear gd
  refine (roll_any w.heap.size TA tn tc t w HT.out (by omega) (Nat.le_refl _) (fun ad e h0 => Row.lt HT.out (by decide) ad e h0)).mono ?_
  rintro e w1 ⟨rfl, hd, hb⟩
  obtain ⟨D, hD⟩ : ∃ D, D = w.heap.size := ⟨_, rfl⟩
  have HD : Hid (∃ kd, DiceAt w1 w.heap.size D t kd) := Lib.hid ⟨0, by rw [hD]; exact hd⟩
  have HB := Lib.hid hb
  have HDD : Hid (w.heap.size = D) := Lib.hid hD.symm
  rw [← hD]
  clear hd hb hD HT
  go_wp2_with fail
  refine (ggraph_g w.heap.size D t w1 HD.out).mono ?_
  rintro e w2 ⟨v0, G, rfl, ho, hgd, hsz, hone, hg⟩
  have HDP : Hid (D < w1.heap.size) := Lib.hid (by obtain ⟨kd, hk⟩ := HD.out; exact hk.lt)
  have HGD := Lib.hid hgd; have hsz2 := hsz; have hs64 := hgd.hi
  replace HB := Lib.hid (HB.out.trans (hg.2.below (by have := HDD.out; omega) HB.out.size))
  replace HD := Lib.hid hg.1
  have HDG : Hid (D < w2.heap.size) := Lib.hid (by obtain ⟨kd, hk⟩ := HD.out; exact hk.lt)
  have HO := Lib.hid ho
  obtain ⟨A, n, c, B, m, k, hve, ha, hh⟩ := ho.hold
  have HNL : Hid (G.es.length = n) := Lib.hid (ERow.len ha)
  have HVE := Lib.hid hve
  generalize w1.heap.size = P at *
  clear hgd hsz hone hg ho ha hh
  rw [hve]
  clear hve
  go_upto_region 5 with (refine wpList_store_new rfl 25 (.tmp 6) (.tmp 22) rfl 25 _ #[.int .i64 G.sz, .slice A n c, .slice B m k] rfl rfl gr_size rfl (by simp [Value.oneCell']) ?_)
  have hb := one_new w2 (.cells #[.int .i64 G.sz, .slice A n c, .slice B m k] 25)
  have HC0 : Hid ((w2.alloc (.cells #[.int .i64 G.sz, .slice A n c, .slice B m k] 25)).heap[w2.heap.size]? = some (.cells #[.int .i64 G.sz, .slice A n c, .slice B m k] 25 (0, 0))) := Lib.hid (heap_alloc_new _ _)
  replace HO := Lib.hid (HO.out.later hb)
  replace HB := Lib.hid (HB.out.trans (hb.mono HB.out.size))
  replace HD : Hid (∃ kd, DiceAt (w2.alloc (.cells #[.int .i64 G.sz, .slice A n c, .slice B m k] 25)) w.heap.size D t kd) := Lib.hid (by obtain ⟨kd, hk⟩ := HD.out; exact ⟨kd, hk.later hb⟩)
  clear hb
  generalize w2.alloc (.cells #[.int .i64 G.sz, .slice A n c, .slice B m k] 25) = y0 at *
  generalize w2.heap.size = g0 at *
  try dsimp only [Act.put]
  go_cut [7] (fun v5 wx => ∃ (g5 : Nat) (e : Edg), v5 = .pointer (some ⟨g5, 0, none⟩) ∧ Hid ((∃ kd, DiceAt wx w.heap.size D t kd) ∧ GOwn wx P G v0 ∧ Below w.heap.size w wx ∧ wx.heap[g0]? = some (.cells #[.int .i64 G.sz, .slice A n c, .slice B m k] 25 (0, 0)) ∧ wx.heap[g5]? = some (.cells e.arr 27 (0, 0)) ∧ D < g5))
  case first =>
   as_aux_lemma =>
    obtain ⟨n0, hn0⟩ : ∃ n0, y0.drew.heap.size = n0 := ⟨_, rfl⟩
    refine wp_region_flow (by kernel_rfl) (BN D n0) ?_
    have HS : Hid ((∃ kd, DiceAt y0.drew w.heap.size D t kd) ∧ GOwn y0.drew P G v0 ∧ Below w.heap.size w y0.drew ∧ y0.drew.heap[g0]? = some (.cells #[.int .i64 G.sz, .slice A n c, .slice B m k] 25 (0, 0))) := Lib.hid (by
     have hb : Below y0.heap.size y0 y0.drew := (Below.refl _ _).drew
     refine ⟨?_, HO.out.later hb, HB.out.trans (hb.mono HB.out.size), HC0.out⟩
     obtain ⟨kd, hk⟩ := HD.out
     exact ⟨kd, hk.later hb⟩)
    have HN : Hid (n0 ≤ y0.drew.heap.size) := Lib.hid (Nat.le_of_eq hn0.symm)
    have HNE : Hid (y0.drew.heap.size ≤ n0) := Lib.hid (Nat.le_of_eq hn0)
    have HGN : Hid (g0 < n0) := Lib.hid (by rw [← hn0]; exact (Array.getElem?_eq_some_iff.1 HS.out.2.2.2).1)
    clear hn0 HO HB HC0 HD
    generalize y0.drew = z0 at *
    have hgn := HGN.out; have hdg := HDG.out
    have hf0 : ∀ x, (fut (BN D n0) z0 x).cell? ⟨g0, 0, none⟩ = some (.int .i64 G.sz) := fun x => (cell_of_row _ _ 0 _ _ _ (((fut_ok (BN.refl D n0) z0 x).keep g0 hgn (by omega)).trans HS.out.2.2.2)).trans rfl
    refine flow_reads (F := BN D n0) (fun _ => BN.refl _ _ _) (by kernel_rfl) [0, 1, 2, 3, 5, 8, 9, 10, 11, 13] (fuel := 9) (by kernel_rfl) ?_
    simp only [List.map_cons, List.map_nil, pick, List.getD_cons_zero, List.getD_cons_succ]
    repeat (go_big_quiet_step (fail))
    refine wpQuiet_nil ?_
    clear hf0
    have HOB : Hid (∀ e gv, v0 = .agg #[.int .i64 G.sz, e, gv] → ∀ q, e.ownBlock = some q ∨ gv.ownBlock = some q → ∀ {g : Nat}, n0 ≤ g → q ≠ g) := Lib.hid (by
     intro e gv he q hq g hg
     obtain ⟨e2, g2, he2, h1, h2⟩ := HS.out.2.1
     rw [he] at he2
     injection he2 with he2
     simp only [Array.mk.injEq, List.cons.injEq, true_and, and_true] at he2
     obtain ⟨rfl, rfl⟩ := he2
     have hz : z0.heap.size ≤ n0 := HNE.out
     rcases hq with hq | hq
     ·
      have := own_lt h1 q hq; omega
     ·
      have := own_lt h2 q hq; omega)
    have HWG : Hid (w.heap.size ≤ n0) := Lib.hid (Nat.le_trans HS.out.2.2.1.size HNE.out)
    refine flow_three (F := BN D n0) (fun _ _ _ => BN.trans) (fun _ => BN.refl _ _ _) 4 14 17 (by kernel_rfl) (by decide) (by decide) (by decide) ?_ ?_ ?_ <;> simp only [pick, List.getD_cons_zero, List.getD_cons_succ]
    ·
     as_aux_lemma =>
      go_wp2_with fail
      refine (next_g w.heap.size D t (G.sz + 1) z0 HS.out.1 (by omega) (by omega)).mono ?_
      rintro e z1 ⟨v0e, rfl, hv0e0, hv0e1, hg⟩
      have HF : Hid (BN D n0 z0 z1) := Lib.hid (BN.but hg.2 HN.out)
      replace HN := Lib.hid (Nat.le_trans HN.out hg.2.size)
      replace HS : Hid ((∃ kd, DiceAt z1 w.heap.size D t kd) ∧ GOwn z1 P G v0 ∧ Below w.heap.size w z1 ∧ z1.heap[g0]? = some (.cells #[.int .i64 G.sz, .slice A n c, .slice B m k] 25 (0, 0))) := Lib.hid ⟨hg.1, HS.out.2.1.but hg.2 HDP.out, HS.out.2.2.1.trans (hg.2.below (by have := HDD.out; omega) HS.out.2.2.1.size), (hg.2.block g0 (Array.getElem?_eq_some_iff.1 HS.out.2.2.2).1 (by omega)).trans HS.out.2.2.2⟩
      clear hg
      go_wp2_with fail
      refine pieceEnd_normal ⟨HF.out, ?_⟩
      clear HF
      refine flow_three (F := BN D n0) (fun _ _ _ => BN.trans) (fun _ => BN.refl _ _ _) 6 14 17 (by kernel_rfl) (by decide) (by decide) (by decide) ?_ ?_ ?_ <;> simp only [pick, List.getD_cons_zero, List.getD_cons_succ]
      ·
       as_aux_lemma =>
        go_wp2_with fail
        refine (next_g w.heap.size D t 2 z1 HS.out.1 (by omega) (by omega)).mono ?_
        rintro e z2 ⟨v1e, rfl, hv1e0, hv1e1, hg⟩
        have HF : Hid (BN D n0 z1 z2) := Lib.hid (BN.but hg.2 HN.out)
        replace HN := Lib.hid (Nat.le_trans HN.out hg.2.size)
        replace HS : Hid ((∃ kd, DiceAt z2 w.heap.size D t kd) ∧ GOwn z2 P G v0 ∧ Below w.heap.size w z2 ∧ z2.heap[g0]? = some (.cells #[.int .i64 G.sz, .slice A n c, .slice B m k] 25 (0, 0))) := Lib.hid ⟨hg.1, HS.out.2.1.but hg.2 HDP.out, HS.out.2.2.1.trans (hg.2.below (by have := HDD.out; omega) HS.out.2.2.1.size), (hg.2.block g0 (Array.getElem?_eq_some_iff.1 HS.out.2.2.2).1 (by omega)).trans HS.out.2.2.2⟩
        clear hg
        go_wp2_with fail
        refine pieceEnd_normal ⟨HF.out, ?_⟩
        clear HF
        refine flow_reads (F := BN D n0) (fun _ => BN.refl _ _ _) (by kernel_rfl) [7] (fuel := 6) (by kernel_rfl) ?_
        simp only [List.map_cons, List.map_nil, pick, List.getD_cons_zero, List.getD_cons_succ]
        repeat (go_big_quiet_step (fail))
        refine wpQuiet_nil ?_
        refine flow_three (F := BN D n0) (fun _ _ _ => BN.trans) (fun _ => BN.refl _ _ _) 12 14 17 (by kernel_rfl) (by decide) (by decide) (by decide) ?_ ?_ ?_ <;> simp only [pick, List.getD_cons_zero, List.getD_cons_succ]
        ·
         as_aux_lemma =>
          go_wp2_with fail
          refine (next_g w.heap.size D t (G.sz + 1) z2 HS.out.1 (by omega) (by omega)).mono ?_
          rintro e z3 ⟨v2e, rfl, hv2e0, hv2e1, hg⟩
          have HF : Hid (BN D n0 z2 z3) := Lib.hid (BN.but hg.2 HN.out)
          replace HN := Lib.hid (Nat.le_trans HN.out hg.2.size)
          replace HS : Hid ((∃ kd, DiceAt z3 w.heap.size D t kd) ∧ GOwn z3 P G v0 ∧ Below w.heap.size w z3 ∧ z3.heap[g0]? = some (.cells #[.int .i64 G.sz, .slice A n c, .slice B m k] 25 (0, 0))) := Lib.hid ⟨hg.1, HS.out.2.1.but hg.2 HDP.out, HS.out.2.2.1.trans (hg.2.below (by have := HDD.out; omega) HS.out.2.2.1.size), (hg.2.block g0 (Array.getElem?_eq_some_iff.1 HS.out.2.2.2).1 (by omega)).trans HS.out.2.2.2⟩
          clear hg
          go_wp2_with fail
          refine pieceEnd_normal ⟨HF.out, ?_⟩
          clear HF
          refine flow_two (F := BN D n0) (fun _ _ _ => BN.trans) (fun _ => BN.refl _ _ _) 14 17 (by kernel_rfl) (by decide) (by decide) ?_ ?_ <;> simp only [pick, List.getD_cons_zero, List.getD_cons_succ]
          ·
           skip
           go_wp2_with fail
           have hb := one_new z3 (.cells #[.int .i64 1, .int .i64 3, .int .i64 0, .int .i64 4] 3)
           refine pieceEnd_normal ⟨BN.later hb HN.out, ?_⟩
           have HL : Hid ((z3.alloc (.cells #[.int .i64 1, .int .i64 3, .int .i64 0, .int .i64 4] 3)).heap[z3.heap.size]? = some (.cells #[.int .i64 1, .int .i64 3, .int .i64 0, .int .i64 4] 3 (0, 0))) := Lib.hid (heap_alloc_new _ _)
           have hgs : n0 ≤ z3.heap.size := HN.out
           replace HS : Hid ((∃ kd, DiceAt (z3.alloc (.cells #[.int .i64 1, .int .i64 3, .int .i64 0, .int .i64 4] 3)) w.heap.size D t kd) ∧ GOwn (z3.alloc (.cells #[.int .i64 1, .int .i64 3, .int .i64 0, .int .i64 4] 3)) P G v0 ∧ Below w.heap.size w (z3.alloc (.cells #[.int .i64 1, .int .i64 3, .int .i64 0, .int .i64 4] 3)) ∧ (z3.alloc (.cells #[.int .i64 1, .int .i64 3, .int .i64 0, .int .i64 4] 3)).heap[g0]? = some (.cells #[.int .i64 G.sz, .slice A n c, .slice B m k] 25 (0, 0))) := Lib.hid ⟨(by obtain ⟨kd, hk⟩ := HS.out.1; exact ⟨kd, hk.later hb⟩), HS.out.2.1.later hb, HS.out.2.2.1.trans (hb.mono HS.out.2.2.1.size), (hb.block g0 (Array.getElem?_eq_some_iff.1 HS.out.2.2.2).1).trans HS.out.2.2.2⟩
           replace HN := Lib.hid (Nat.le_trans HN.out hb.size)
           clear hb
           generalize z3.alloc (.cells #[.int .i64 1, .int .i64 3, .int .i64 0, .int .i64 4] 3) = z4 at *
           generalize z3.heap.size = gs at *
           refine flow_two (F := BN D n0) (fun _ _ _ => BN.trans) (fun _ => BN.refl _ _ _) 15 17 (by kernel_rfl) (by decide) (by decide) ?_ ?_ <;> simp only [pick, List.getD_cons_zero, List.getD_cons_succ]
           ·
            skip
            go_wp2_with fail
            refine (of_g w.heap.size D t (some ⟨gs, 0, none⟩) 4 4 [1, 3, 0, 4] z4 HS.out.1 (row4 HL.out) (fun ad e => by injection e with e; subst e; show gs ≠ D; omega) (by decide) (by decide)).mono ?_
            rintro e z5 ⟨ve, rfl, hve1, hg⟩
            clear hve1
            have HF : Hid (BN D n0 z4 z5) := Lib.hid (BN.but hg.2 HN.out)
            replace HN := Lib.hid (Nat.le_trans HN.out hg.2.size)
            replace HL : Hid (z5.heap[gs]? = some (.cells #[.int .i64 1, .int .i64 3, .int .i64 0, .int .i64 4] 3 (0, 0))) := Lib.hid ((hg.2.block gs (Array.getElem?_eq_some_iff.1 HL.out).1 (by omega)).trans HL.out)
            replace HS : Hid ((∃ kd, DiceAt z5 w.heap.size D t kd) ∧ GOwn z5 P G v0 ∧ Below w.heap.size w z5 ∧ z5.heap[g0]? = some (.cells #[.int .i64 G.sz, .slice A n c, .slice B m k] 25 (0, 0))) := Lib.hid ⟨hg.1, HS.out.2.1.but hg.2 HDP.out, HS.out.2.2.1.trans (hg.2.below (by have := HDD.out; omega) HS.out.2.2.1.size), (hg.2.block g0 (Array.getElem?_eq_some_iff.1 HS.out.2.2.2).1 (by omega)).trans HS.out.2.2.2⟩
            clear hg
            go_wp2_with fail
            refine pieceEnd_normal ⟨HF.out, ?_⟩
            clear HF
            refine flow_val (F := BN D n0) (fun _ => BN.refl _ _ _) (by kernel_rfl) 16 (by kernel_rfl) ?_
            simp only [pick, List.getD_cons_zero, List.getD_cons_succ]
            repeat (go_big_quiet_step (fail))
            refine wpQuiet_nil ?_
            refine flow_one (F := BN D n0) (fun _ _ _ => BN.trans) (fun _ => BN.refl _ _ _) 17 (by kernel_rfl) (by decide) ?_
            simp only [pick, List.getD_cons_zero, List.getD_cons_succ]
            go_wp2_with fail
            have hb := one_new z5 (.cells #[.int .i64 0, .int .i64 0, .int .i64 0] 27)
            refine pieceEnd_normal ⟨BN.later hb HN.out, ?_⟩
            have HA : Hid ((z5.alloc (.cells #[.int .i64 0, .int .i64 0, .int .i64 0] 27)).heap[z5.heap.size]? = some (.cells #[.int .i64 0, .int .i64 0, .int .i64 0] 27 (0, 0))) := Lib.hid (heap_alloc_new _ _)
            have hg5 : n0 ≤ z5.heap.size := HN.out
            replace HL : Hid ((z5.alloc (.cells #[.int .i64 0, .int .i64 0, .int .i64 0] 27)).heap[gs]? = some (.cells #[.int .i64 1, .int .i64 3, .int .i64 0, .int .i64 4] 3 (0, 0))) := Lib.hid ((hb.block gs (Array.getElem?_eq_some_iff.1 HL.out).1).trans HL.out)
            replace HS : Hid ((∃ kd, DiceAt (z5.alloc (.cells #[.int .i64 0, .int .i64 0, .int .i64 0] 27)) w.heap.size D t kd) ∧ GOwn (z5.alloc (.cells #[.int .i64 0, .int .i64 0, .int .i64 0] 27)) P G v0 ∧ Below w.heap.size w (z5.alloc (.cells #[.int .i64 0, .int .i64 0, .int .i64 0] 27)) ∧ (z5.alloc (.cells #[.int .i64 0, .int .i64 0, .int .i64 0] 27)).heap[g0]? = some (.cells #[.int .i64 G.sz, .slice A n c, .slice B m k] 25 (0, 0))) := Lib.hid ⟨(by obtain ⟨kd, hk⟩ := HS.out.1; exact ⟨kd, hk.later hb⟩), HS.out.2.1.later hb, HS.out.2.2.1.trans (hb.mono HS.out.2.2.1.size), (hb.block g0 (Array.getElem?_eq_some_iff.1 HS.out.2.2.2).1).trans HS.out.2.2.2⟩
            replace HN := Lib.hid (Nat.le_trans HN.out hb.size)
            clear hb
            generalize z5.alloc (.cells #[.int .i64 0, .int .i64 0, .int .i64 0] 27) = z6 at *
            generalize z5.heap.size = g5 at *
            refine flow_one (F := BN D n0) (fun _ _ _ => BN.trans) (fun _ => BN.refl _ _ _) 18 (by kernel_rfl) (by decide) ?_
            simp only [pick, List.getD_cons_zero, List.getD_cons_succ]
            go_wp2_with (refine wpList_store_row rfl 27 (.tmp 7) (.tmp 39) rfl g5 #[.int .i64 (v0e - v1e), .int .i64 v2e, .int .i64 ve] rfl rfl 27 _ HA.out (Edg.info ⟨v0e - v1e, v2e, ve⟩) rfl (by simp [Value.oneCell']) ?_)
            refine pieceEnd_normal ⟨BN.row _ _ hg5, ?_⟩
            have HA5 := Lib.hid (setRow_heap z6 g5 _ #[.int .i64 (v0e - v1e), .int .i64 v2e, .int .i64 ve] _ _ HA.out)
            have HGO : Hid (g0 ≠ g5) := Lib.hid (by omega)
            have HOW : Hid (GOwn (z6.setRow g5 #[.int .i64 (v0e - v1e), .int .i64 v2e, .int .i64 ve]) P G v0) := Lib.hid (by
             obtain ⟨e, gv, he, h1, h2⟩ := HS.out.2.1
             exact ⟨e, gv, he, own_keepL h1 fun q hq => setRow_other z6 g5 q #[.int .i64 (v0e - v1e), .int .i64 v2e, .int .i64 ve] (HOB.out e gv he q (.inl hq) hg5), own_keepL h2 fun q hq => setRow_other z6 g5 q #[.int .i64 (v0e - v1e), .int .i64 v2e, .int .i64 ve] (HOB.out e gv he q (.inr hq) hg5)⟩)
            have HBS : Hid (Below w.heap.size z6 (z6.setRow g5 #[.int .i64 (v0e - v1e), .int .i64 v2e, .int .i64 ve])) := Lib.hid (below_setRow (Below.refl _ _) (by have := HS.out.2.2.1.size; have h8 := HWG.out; omega) #[.int .i64 (v0e - v1e), .int .i64 v2e, .int .i64 ve])
            refine flow_done (by kernel_rfl) ?_
            go_wp2_with fail
            go_meet
            exact ⟨g5, ⟨v0e - v1e, v2e, ve⟩, rfl, Lib.hid ⟨(by obtain ⟨kd, hk⟩ := HS.out.1; exact ⟨kd, hk.below (below_setRow (Below.refl _ _) (Nat.le_refl g5) #[.int .i64 (v0e - v1e), .int .i64 v2e, .int .i64 ve]) (by omega)⟩), HOW.out, HS.out.2.2.1.trans HBS.out, (setRow_other z6 g5 g0 #[.int .i64 (v0e - v1e), .int .i64 v2e, .int .i64 ve] HGO.out).trans HS.out.2.2.2, HA5.out, by omega⟩⟩
           ·
            skip
            go_wp2_with fail
            have hb := one_new z4 (.cells #[.int .i64 0, .int .i64 0, .int .i64 0] 27)
            refine pieceEnd_normal ⟨BN.later hb HN.out, ?_⟩
            have HA : Hid ((z4.alloc (.cells #[.int .i64 0, .int .i64 0, .int .i64 0] 27)).heap[z4.heap.size]? = some (.cells #[.int .i64 0, .int .i64 0, .int .i64 0] 27 (0, 0))) := Lib.hid (heap_alloc_new _ _)
            have hg5 : n0 ≤ z4.heap.size := HN.out
            replace HL : Hid ((z4.alloc (.cells #[.int .i64 0, .int .i64 0, .int .i64 0] 27)).heap[gs]? = some (.cells #[.int .i64 1, .int .i64 3, .int .i64 0, .int .i64 4] 3 (0, 0))) := Lib.hid ((hb.block gs (Array.getElem?_eq_some_iff.1 HL.out).1).trans HL.out)
            replace HS : Hid ((∃ kd, DiceAt (z4.alloc (.cells #[.int .i64 0, .int .i64 0, .int .i64 0] 27)) w.heap.size D t kd) ∧ GOwn (z4.alloc (.cells #[.int .i64 0, .int .i64 0, .int .i64 0] 27)) P G v0 ∧ Below w.heap.size w (z4.alloc (.cells #[.int .i64 0, .int .i64 0, .int .i64 0] 27)) ∧ (z4.alloc (.cells #[.int .i64 0, .int .i64 0, .int .i64 0] 27)).heap[g0]? = some (.cells #[.int .i64 G.sz, .slice A n c, .slice B m k] 25 (0, 0))) := Lib.hid ⟨(by obtain ⟨kd, hk⟩ := HS.out.1; exact ⟨kd, hk.later hb⟩), HS.out.2.1.later hb, HS.out.2.2.1.trans (hb.mono HS.out.2.2.1.size), (hb.block g0 (Array.getElem?_eq_some_iff.1 HS.out.2.2.2).1).trans HS.out.2.2.2⟩
            replace HN := Lib.hid (Nat.le_trans HN.out hb.size)
            clear hb
            generalize z4.alloc (.cells #[.int .i64 0, .int .i64 0, .int .i64 0] 27) = z7 at *
            generalize z4.heap.size = g5 at *
            refine flow_one (F := BN D n0) (fun _ _ _ => BN.trans) (fun _ => BN.refl _ _ _) 15 (by kernel_rfl) (by decide) ?_
            simp only [pick, List.getD_cons_zero, List.getD_cons_succ]
            go_wp2_with fail
            refine (of_g w.heap.size D t (some ⟨gs, 0, none⟩) 4 4 [1, 3, 0, 4] z7 HS.out.1 (row4 HL.out) (fun ad e => by injection e with e; subst e; show gs ≠ D; omega) (by decide) (by decide)).mono ?_
            rintro e z8 ⟨ve, rfl, hve1, hg⟩
            clear hve1
            have HF : Hid (BN D n0 z7 z8) := Lib.hid (BN.but hg.2 HN.out)
            replace HN := Lib.hid (Nat.le_trans HN.out hg.2.size)
            replace HA : Hid (z8.heap[g5]? = some (.cells #[.int .i64 0, .int .i64 0, .int .i64 0] 27 (0, 0))) := Lib.hid ((hg.2.block g5 (Array.getElem?_eq_some_iff.1 HA.out).1 (by omega)).trans HA.out)
            replace HL : Hid (z8.heap[gs]? = some (.cells #[.int .i64 1, .int .i64 3, .int .i64 0, .int .i64 4] 3 (0, 0))) := Lib.hid ((hg.2.block gs (Array.getElem?_eq_some_iff.1 HL.out).1 (by omega)).trans HL.out)
            replace HS : Hid ((∃ kd, DiceAt z8 w.heap.size D t kd) ∧ GOwn z8 P G v0 ∧ Below w.heap.size w z8 ∧ z8.heap[g0]? = some (.cells #[.int .i64 G.sz, .slice A n c, .slice B m k] 25 (0, 0))) := Lib.hid ⟨hg.1, HS.out.2.1.but hg.2 HDP.out, HS.out.2.2.1.trans (hg.2.below (by have := HDD.out; omega) HS.out.2.2.1.size), (hg.2.block g0 (Array.getElem?_eq_some_iff.1 HS.out.2.2.2).1 (by omega)).trans HS.out.2.2.2⟩
            clear hg
            go_wp2_with fail
            refine pieceEnd_normal ⟨HF.out, ?_⟩
            clear HF
            refine flow_val (F := BN D n0) (fun _ => BN.refl _ _ _) (by kernel_rfl) 16 (by kernel_rfl) ?_
            simp only [pick, List.getD_cons_zero, List.getD_cons_succ]
            repeat (go_big_quiet_step (fail))
            refine wpQuiet_nil ?_
            refine flow_one (F := BN D n0) (fun _ _ _ => BN.trans) (fun _ => BN.refl _ _ _) 18 (by kernel_rfl) (by decide) ?_
            simp only [pick, List.getD_cons_zero, List.getD_cons_succ]
            go_wp2_with (refine wpList_store_row rfl 27 (.tmp 7) (.tmp 39) rfl g5 #[.int .i64 (v0e - v1e), .int .i64 v2e, .int .i64 ve] rfl rfl 27 _ HA.out (Edg.info ⟨v0e - v1e, v2e, ve⟩) rfl (by simp [Value.oneCell']) ?_)
            refine pieceEnd_normal ⟨BN.row _ _ hg5, ?_⟩
            have HA5 := Lib.hid (setRow_heap z8 g5 _ #[.int .i64 (v0e - v1e), .int .i64 v2e, .int .i64 ve] _ _ HA.out)
            have HGO : Hid (g0 ≠ g5) := Lib.hid (by omega)
            have HOW : Hid (GOwn (z8.setRow g5 #[.int .i64 (v0e - v1e), .int .i64 v2e, .int .i64 ve]) P G v0) := Lib.hid (by
             obtain ⟨e, gv, he, h1, h2⟩ := HS.out.2.1
             exact ⟨e, gv, he, own_keepL h1 fun q hq => setRow_other z8 g5 q #[.int .i64 (v0e - v1e), .int .i64 v2e, .int .i64 ve] (HOB.out e gv he q (.inl hq) hg5), own_keepL h2 fun q hq => setRow_other z8 g5 q #[.int .i64 (v0e - v1e), .int .i64 v2e, .int .i64 ve] (HOB.out e gv he q (.inr hq) hg5)⟩)
            have HBS : Hid (Below w.heap.size z8 (z8.setRow g5 #[.int .i64 (v0e - v1e), .int .i64 v2e, .int .i64 ve])) := Lib.hid (below_setRow (Below.refl _ _) (by have := HS.out.2.2.1.size; have h8 := HWG.out; omega) #[.int .i64 (v0e - v1e), .int .i64 v2e, .int .i64 ve])
            refine flow_done (by kernel_rfl) ?_
            go_wp2_with fail
            go_meet
            exact ⟨g5, ⟨v0e - v1e, v2e, ve⟩, rfl, Lib.hid ⟨(by obtain ⟨kd, hk⟩ := HS.out.1; exact ⟨kd, hk.below (below_setRow (Below.refl _ _) (Nat.le_refl g5) #[.int .i64 (v0e - v1e), .int .i64 v2e, .int .i64 ve]) (by omega)⟩), HOW.out, HS.out.2.2.1.trans HBS.out, (setRow_other z8 g5 g0 #[.int .i64 (v0e - v1e), .int .i64 v2e, .int .i64 ve] HGO.out).trans HS.out.2.2.2, HA5.out, by omega⟩⟩
          ·
           skip
           go_wp2_with fail
           have hb := one_new z3 (.cells #[.int .i64 0, .int .i64 0, .int .i64 0] 27)
           refine pieceEnd_normal ⟨BN.later hb HN.out, ?_⟩
           have HA : Hid ((z3.alloc (.cells #[.int .i64 0, .int .i64 0, .int .i64 0] 27)).heap[z3.heap.size]? = some (.cells #[.int .i64 0, .int .i64 0, .int .i64 0] 27 (0, 0))) := Lib.hid (heap_alloc_new _ _)
           have hg5 : n0 ≤ z3.heap.size := HN.out
           replace HS : Hid ((∃ kd, DiceAt (z3.alloc (.cells #[.int .i64 0, .int .i64 0, .int .i64 0] 27)) w.heap.size D t kd) ∧ GOwn (z3.alloc (.cells #[.int .i64 0, .int .i64 0, .int .i64 0] 27)) P G v0 ∧ Below w.heap.size w (z3.alloc (.cells #[.int .i64 0, .int .i64 0, .int .i64 0] 27)) ∧ (z3.alloc (.cells #[.int .i64 0, .int .i64 0, .int .i64 0] 27)).heap[g0]? = some (.cells #[.int .i64 G.sz, .slice A n c, .slice B m k] 25 (0, 0))) := Lib.hid ⟨(by obtain ⟨kd, hk⟩ := HS.out.1; exact ⟨kd, hk.later hb⟩), HS.out.2.1.later hb, HS.out.2.2.1.trans (hb.mono HS.out.2.2.1.size), (hb.block g0 (Array.getElem?_eq_some_iff.1 HS.out.2.2.2).1).trans HS.out.2.2.2⟩
           replace HN := Lib.hid (Nat.le_trans HN.out hb.size)
           clear hb
           generalize z3.alloc (.cells #[.int .i64 0, .int .i64 0, .int .i64 0] 27) = z9 at *
           generalize z3.heap.size = g5 at *
           refine flow_one (F := BN D n0) (fun _ _ _ => BN.trans) (fun _ => BN.refl _ _ _) 14 (by kernel_rfl) (by decide) ?_
           simp only [pick, List.getD_cons_zero, List.getD_cons_succ]
           go_wp2_with fail
           have hb := one_new z9 (.cells #[.int .i64 1, .int .i64 3, .int .i64 0, .int .i64 4] 3)
           refine pieceEnd_normal ⟨BN.later hb HN.out, ?_⟩
           have HL : Hid ((z9.alloc (.cells #[.int .i64 1, .int .i64 3, .int .i64 0, .int .i64 4] 3)).heap[z9.heap.size]? = some (.cells #[.int .i64 1, .int .i64 3, .int .i64 0, .int .i64 4] 3 (0, 0))) := Lib.hid (heap_alloc_new _ _)
           have hgs : n0 ≤ z9.heap.size := HN.out
           replace HA : Hid ((z9.alloc (.cells #[.int .i64 1, .int .i64 3, .int .i64 0, .int .i64 4] 3)).heap[g5]? = some (.cells #[.int .i64 0, .int .i64 0, .int .i64 0] 27 (0, 0))) := Lib.hid ((hb.block g5 (Array.getElem?_eq_some_iff.1 HA.out).1).trans HA.out)
           replace HS : Hid ((∃ kd, DiceAt (z9.alloc (.cells #[.int .i64 1, .int .i64 3, .int .i64 0, .int .i64 4] 3)) w.heap.size D t kd) ∧ GOwn (z9.alloc (.cells #[.int .i64 1, .int .i64 3, .int .i64 0, .int .i64 4] 3)) P G v0 ∧ Below w.heap.size w (z9.alloc (.cells #[.int .i64 1, .int .i64 3, .int .i64 0, .int .i64 4] 3)) ∧ (z9.alloc (.cells #[.int .i64 1, .int .i64 3, .int .i64 0, .int .i64 4] 3)).heap[g0]? = some (.cells #[.int .i64 G.sz, .slice A n c, .slice B m k] 25 (0, 0))) := Lib.hid ⟨(by obtain ⟨kd, hk⟩ := HS.out.1; exact ⟨kd, hk.later hb⟩), HS.out.2.1.later hb, HS.out.2.2.1.trans (hb.mono HS.out.2.2.1.size), (hb.block g0 (Array.getElem?_eq_some_iff.1 HS.out.2.2.2).1).trans HS.out.2.2.2⟩
           replace HN := Lib.hid (Nat.le_trans HN.out hb.size)
           clear hb
           generalize z9.alloc (.cells #[.int .i64 1, .int .i64 3, .int .i64 0, .int .i64 4] 3) = z10 at *
           generalize z9.heap.size = gs at *
           refine flow_one (F := BN D n0) (fun _ _ _ => BN.trans) (fun _ => BN.refl _ _ _) 15 (by kernel_rfl) (by decide) ?_
           simp only [pick, List.getD_cons_zero, List.getD_cons_succ]
           go_wp2_with fail
           refine (of_g w.heap.size D t (some ⟨gs, 0, none⟩) 4 4 [1, 3, 0, 4] z10 HS.out.1 (row4 HL.out) (fun ad e => by injection e with e; subst e; show gs ≠ D; omega) (by decide) (by decide)).mono ?_
           rintro e z11 ⟨ve, rfl, hve1, hg⟩
           clear hve1
           have HF : Hid (BN D n0 z10 z11) := Lib.hid (BN.but hg.2 HN.out)
           replace HN := Lib.hid (Nat.le_trans HN.out hg.2.size)
           replace HA : Hid (z11.heap[g5]? = some (.cells #[.int .i64 0, .int .i64 0, .int .i64 0] 27 (0, 0))) := Lib.hid ((hg.2.block g5 (Array.getElem?_eq_some_iff.1 HA.out).1 (by omega)).trans HA.out)
           replace HL : Hid (z11.heap[gs]? = some (.cells #[.int .i64 1, .int .i64 3, .int .i64 0, .int .i64 4] 3 (0, 0))) := Lib.hid ((hg.2.block gs (Array.getElem?_eq_some_iff.1 HL.out).1 (by omega)).trans HL.out)
           replace HS : Hid ((∃ kd, DiceAt z11 w.heap.size D t kd) ∧ GOwn z11 P G v0 ∧ Below w.heap.size w z11 ∧ z11.heap[g0]? = some (.cells #[.int .i64 G.sz, .slice A n c, .slice B m k] 25 (0, 0))) := Lib.hid ⟨hg.1, HS.out.2.1.but hg.2 HDP.out, HS.out.2.2.1.trans (hg.2.below (by have := HDD.out; omega) HS.out.2.2.1.size), (hg.2.block g0 (Array.getElem?_eq_some_iff.1 HS.out.2.2.2).1 (by omega)).trans HS.out.2.2.2⟩
           clear hg
           go_wp2_with fail
           refine pieceEnd_normal ⟨HF.out, ?_⟩
           clear HF
           refine flow_val (F := BN D n0) (fun _ => BN.refl _ _ _) (by kernel_rfl) 16 (by kernel_rfl) ?_
           simp only [pick, List.getD_cons_zero, List.getD_cons_succ]
           repeat (go_big_quiet_step (fail))
           refine wpQuiet_nil ?_
           refine flow_one (F := BN D n0) (fun _ _ _ => BN.trans) (fun _ => BN.refl _ _ _) 18 (by kernel_rfl) (by decide) ?_
           simp only [pick, List.getD_cons_zero, List.getD_cons_succ]
           go_wp2_with (refine wpList_store_row rfl 27 (.tmp 7) (.tmp 39) rfl g5 #[.int .i64 (v0e - v1e), .int .i64 v2e, .int .i64 ve] rfl rfl 27 _ HA.out (Edg.info ⟨v0e - v1e, v2e, ve⟩) rfl (by simp [Value.oneCell']) ?_)
           refine pieceEnd_normal ⟨BN.row _ _ hg5, ?_⟩
           have HA5 := Lib.hid (setRow_heap z11 g5 _ #[.int .i64 (v0e - v1e), .int .i64 v2e, .int .i64 ve] _ _ HA.out)
           have HGO : Hid (g0 ≠ g5) := Lib.hid (by omega)
           have HOW : Hid (GOwn (z11.setRow g5 #[.int .i64 (v0e - v1e), .int .i64 v2e, .int .i64 ve]) P G v0) := Lib.hid (by
            obtain ⟨e, gv, he, h1, h2⟩ := HS.out.2.1
            exact ⟨e, gv, he, own_keepL h1 fun q hq => setRow_other z11 g5 q #[.int .i64 (v0e - v1e), .int .i64 v2e, .int .i64 ve] (HOB.out e gv he q (.inl hq) hg5), own_keepL h2 fun q hq => setRow_other z11 g5 q #[.int .i64 (v0e - v1e), .int .i64 v2e, .int .i64 ve] (HOB.out e gv he q (.inr hq) hg5)⟩)
           have HBS : Hid (Below w.heap.size z11 (z11.setRow g5 #[.int .i64 (v0e - v1e), .int .i64 v2e, .int .i64 ve])) := Lib.hid (below_setRow (Below.refl _ _) (by have := HS.out.2.2.1.size; have h8 := HWG.out; omega) #[.int .i64 (v0e - v1e), .int .i64 v2e, .int .i64 ve])
           refine flow_done (by kernel_rfl) ?_
           go_wp2_with fail
           go_meet
           exact ⟨g5, ⟨v0e - v1e, v2e, ve⟩, rfl, Lib.hid ⟨(by obtain ⟨kd, hk⟩ := HS.out.1; exact ⟨kd, hk.below (below_setRow (Below.refl _ _) (Nat.le_refl g5) #[.int .i64 (v0e - v1e), .int .i64 v2e, .int .i64 ve]) (by omega)⟩), HOW.out, HS.out.2.2.1.trans HBS.out, (setRow_other z11 g5 g0 #[.int .i64 (v0e - v1e), .int .i64 v2e, .int .i64 ve] HGO.out).trans HS.out.2.2.2, HA5.out, by omega⟩⟩
        ·
         as_aux_lemma =>
          go_wp2_with fail
          have hb := one_new z2 (.cells #[.int .i64 1, .int .i64 3, .int .i64 0, .int .i64 4] 3)
          refine pieceEnd_normal ⟨BN.later hb HN.out, ?_⟩
          have HL : Hid ((z2.alloc (.cells #[.int .i64 1, .int .i64 3, .int .i64 0, .int .i64 4] 3)).heap[z2.heap.size]? = some (.cells #[.int .i64 1, .int .i64 3, .int .i64 0, .int .i64 4] 3 (0, 0))) := Lib.hid (heap_alloc_new _ _)
          have hgs : n0 ≤ z2.heap.size := HN.out
          replace HS : Hid ((∃ kd, DiceAt (z2.alloc (.cells #[.int .i64 1, .int .i64 3, .int .i64 0, .int .i64 4] 3)) w.heap.size D t kd) ∧ GOwn (z2.alloc (.cells #[.int .i64 1, .int .i64 3, .int .i64 0, .int .i64 4] 3)) P G v0 ∧ Below w.heap.size w (z2.alloc (.cells #[.int .i64 1, .int .i64 3, .int .i64 0, .int .i64 4] 3)) ∧ (z2.alloc (.cells #[.int .i64 1, .int .i64 3, .int .i64 0, .int .i64 4] 3)).heap[g0]? = some (.cells #[.int .i64 G.sz, .slice A n c, .slice B m k] 25 (0, 0))) := Lib.hid ⟨(by obtain ⟨kd, hk⟩ := HS.out.1; exact ⟨kd, hk.later hb⟩), HS.out.2.1.later hb, HS.out.2.2.1.trans (hb.mono HS.out.2.2.1.size), (hb.block g0 (Array.getElem?_eq_some_iff.1 HS.out.2.2.2).1).trans HS.out.2.2.2⟩
          replace HN := Lib.hid (Nat.le_trans HN.out hb.size)
          clear hb
          generalize z2.alloc (.cells #[.int .i64 1, .int .i64 3, .int .i64 0, .int .i64 4] 3) = z12 at *
          generalize z2.heap.size = gs at *
          refine flow_two (F := BN D n0) (fun _ _ _ => BN.trans) (fun _ => BN.refl _ _ _) 12 17 (by kernel_rfl) (by decide) (by decide) ?_ ?_ <;> simp only [pick, List.getD_cons_zero, List.getD_cons_succ]
          ·
           skip
           go_wp2_with fail
           refine (next_g w.heap.size D t (G.sz + 1) z12 HS.out.1 (by omega) (by omega)).mono ?_
           rintro e z13 ⟨v2e, rfl, hv2e0, hv2e1, hg⟩
           have HF : Hid (BN D n0 z12 z13) := Lib.hid (BN.but hg.2 HN.out)
           replace HN := Lib.hid (Nat.le_trans HN.out hg.2.size)
           replace HL : Hid (z13.heap[gs]? = some (.cells #[.int .i64 1, .int .i64 3, .int .i64 0, .int .i64 4] 3 (0, 0))) := Lib.hid ((hg.2.block gs (Array.getElem?_eq_some_iff.1 HL.out).1 (by omega)).trans HL.out)
           replace HS : Hid ((∃ kd, DiceAt z13 w.heap.size D t kd) ∧ GOwn z13 P G v0 ∧ Below w.heap.size w z13 ∧ z13.heap[g0]? = some (.cells #[.int .i64 G.sz, .slice A n c, .slice B m k] 25 (0, 0))) := Lib.hid ⟨hg.1, HS.out.2.1.but hg.2 HDP.out, HS.out.2.2.1.trans (hg.2.below (by have := HDD.out; omega) HS.out.2.2.1.size), (hg.2.block g0 (Array.getElem?_eq_some_iff.1 HS.out.2.2.2).1 (by omega)).trans HS.out.2.2.2⟩
           clear hg
           go_wp2_with fail
           refine pieceEnd_normal ⟨HF.out, ?_⟩
           clear HF
           refine flow_two (F := BN D n0) (fun _ _ _ => BN.trans) (fun _ => BN.refl _ _ _) 15 17 (by kernel_rfl) (by decide) (by decide) ?_ ?_ <;> simp only [pick, List.getD_cons_zero, List.getD_cons_succ]
           ·
            skip
            go_wp2_with fail
            refine (of_g w.heap.size D t (some ⟨gs, 0, none⟩) 4 4 [1, 3, 0, 4] z13 HS.out.1 (row4 HL.out) (fun ad e => by injection e with e; subst e; show gs ≠ D; omega) (by decide) (by decide)).mono ?_
            rintro e z14 ⟨ve, rfl, hve1, hg⟩
            clear hve1
            have HF : Hid (BN D n0 z13 z14) := Lib.hid (BN.but hg.2 HN.out)
            replace HN := Lib.hid (Nat.le_trans HN.out hg.2.size)
            replace HL : Hid (z14.heap[gs]? = some (.cells #[.int .i64 1, .int .i64 3, .int .i64 0, .int .i64 4] 3 (0, 0))) := Lib.hid ((hg.2.block gs (Array.getElem?_eq_some_iff.1 HL.out).1 (by omega)).trans HL.out)
            replace HS : Hid ((∃ kd, DiceAt z14 w.heap.size D t kd) ∧ GOwn z14 P G v0 ∧ Below w.heap.size w z14 ∧ z14.heap[g0]? = some (.cells #[.int .i64 G.sz, .slice A n c, .slice B m k] 25 (0, 0))) := Lib.hid ⟨hg.1, HS.out.2.1.but hg.2 HDP.out, HS.out.2.2.1.trans (hg.2.below (by have := HDD.out; omega) HS.out.2.2.1.size), (hg.2.block g0 (Array.getElem?_eq_some_iff.1 HS.out.2.2.2).1 (by omega)).trans HS.out.2.2.2⟩
            clear hg
            go_wp2_with fail
            refine pieceEnd_normal ⟨HF.out, ?_⟩
            clear HF
            refine flow_val (F := BN D n0) (fun _ => BN.refl _ _ _) (by kernel_rfl) 16 (by kernel_rfl) ?_
            simp only [pick, List.getD_cons_zero, List.getD_cons_succ]
            repeat (go_big_quiet_step (fail))
            refine wpQuiet_nil ?_
            refine flow_one (F := BN D n0) (fun _ _ _ => BN.trans) (fun _ => BN.refl _ _ _) 17 (by kernel_rfl) (by decide) ?_
            simp only [pick, List.getD_cons_zero, List.getD_cons_succ]
            go_wp2_with fail
            have hb := one_new z14 (.cells #[.int .i64 0, .int .i64 0, .int .i64 0] 27)
            refine pieceEnd_normal ⟨BN.later hb HN.out, ?_⟩
            have HA : Hid ((z14.alloc (.cells #[.int .i64 0, .int .i64 0, .int .i64 0] 27)).heap[z14.heap.size]? = some (.cells #[.int .i64 0, .int .i64 0, .int .i64 0] 27 (0, 0))) := Lib.hid (heap_alloc_new _ _)
            have hg5 : n0 ≤ z14.heap.size := HN.out
            replace HL : Hid ((z14.alloc (.cells #[.int .i64 0, .int .i64 0, .int .i64 0] 27)).heap[gs]? = some (.cells #[.int .i64 1, .int .i64 3, .int .i64 0, .int .i64 4] 3 (0, 0))) := Lib.hid ((hb.block gs (Array.getElem?_eq_some_iff.1 HL.out).1).trans HL.out)
            replace HS : Hid ((∃ kd, DiceAt (z14.alloc (.cells #[.int .i64 0, .int .i64 0, .int .i64 0] 27)) w.heap.size D t kd) ∧ GOwn (z14.alloc (.cells #[.int .i64 0, .int .i64 0, .int .i64 0] 27)) P G v0 ∧ Below w.heap.size w (z14.alloc (.cells #[.int .i64 0, .int .i64 0, .int .i64 0] 27)) ∧ (z14.alloc (.cells #[.int .i64 0, .int .i64 0, .int .i64 0] 27)).heap[g0]? = some (.cells #[.int .i64 G.sz, .slice A n c, .slice B m k] 25 (0, 0))) := Lib.hid ⟨(by obtain ⟨kd, hk⟩ := HS.out.1; exact ⟨kd, hk.later hb⟩), HS.out.2.1.later hb, HS.out.2.2.1.trans (hb.mono HS.out.2.2.1.size), (hb.block g0 (Array.getElem?_eq_some_iff.1 HS.out.2.2.2).1).trans HS.out.2.2.2⟩
            replace HN := Lib.hid (Nat.le_trans HN.out hb.size)
            clear hb
            generalize z14.alloc (.cells #[.int .i64 0, .int .i64 0, .int .i64 0] 27) = z15 at *
            generalize z14.heap.size = g5 at *
            refine flow_one (F := BN D n0) (fun _ _ _ => BN.trans) (fun _ => BN.refl _ _ _) 18 (by kernel_rfl) (by decide) ?_
            simp only [pick, List.getD_cons_zero, List.getD_cons_succ]
            go_wp2_with (refine wpList_store_row rfl 27 (.tmp 7) (.tmp 39) rfl g5 #[.int .i64 (v0e - v1e), .int .i64 v2e, .int .i64 ve] rfl rfl 27 _ HA.out (Edg.info ⟨v0e - v1e, v2e, ve⟩) rfl (by simp [Value.oneCell']) ?_)
            refine pieceEnd_normal ⟨BN.row _ _ hg5, ?_⟩
            have HA5 := Lib.hid (setRow_heap z15 g5 _ #[.int .i64 (v0e - v1e), .int .i64 v2e, .int .i64 ve] _ _ HA.out)
            have HGO : Hid (g0 ≠ g5) := Lib.hid (by omega)
            have HOW : Hid (GOwn (z15.setRow g5 #[.int .i64 (v0e - v1e), .int .i64 v2e, .int .i64 ve]) P G v0) := Lib.hid (by
             obtain ⟨e, gv, he, h1, h2⟩ := HS.out.2.1
             exact ⟨e, gv, he, own_keepL h1 fun q hq => setRow_other z15 g5 q #[.int .i64 (v0e - v1e), .int .i64 v2e, .int .i64 ve] (HOB.out e gv he q (.inl hq) hg5), own_keepL h2 fun q hq => setRow_other z15 g5 q #[.int .i64 (v0e - v1e), .int .i64 v2e, .int .i64 ve] (HOB.out e gv he q (.inr hq) hg5)⟩)
            have HBS : Hid (Below w.heap.size z15 (z15.setRow g5 #[.int .i64 (v0e - v1e), .int .i64 v2e, .int .i64 ve])) := Lib.hid (below_setRow (Below.refl _ _) (by have := HS.out.2.2.1.size; have h8 := HWG.out; omega) #[.int .i64 (v0e - v1e), .int .i64 v2e, .int .i64 ve])
            refine flow_done (by kernel_rfl) ?_
            go_wp2_with fail
            go_meet
            exact ⟨g5, ⟨v0e - v1e, v2e, ve⟩, rfl, Lib.hid ⟨(by obtain ⟨kd, hk⟩ := HS.out.1; exact ⟨kd, hk.below (below_setRow (Below.refl _ _) (Nat.le_refl g5) #[.int .i64 (v0e - v1e), .int .i64 v2e, .int .i64 ve]) (by omega)⟩), HOW.out, HS.out.2.2.1.trans HBS.out, (setRow_other z15 g5 g0 #[.int .i64 (v0e - v1e), .int .i64 v2e, .int .i64 ve] HGO.out).trans HS.out.2.2.2, HA5.out, by omega⟩⟩
           ·
            skip
            go_wp2_with fail
            have hb := one_new z13 (.cells #[.int .i64 0, .int .i64 0, .int .i64 0] 27)
            refine pieceEnd_normal ⟨BN.later hb HN.out, ?_⟩
            have HA : Hid ((z13.alloc (.cells #[.int .i64 0, .int .i64 0, .int .i64 0] 27)).heap[z13.heap.size]? = some (.cells #[.int .i64 0, .int .i64 0, .int .i64 0] 27 (0, 0))) := Lib.hid (heap_alloc_new _ _)
            have hg5 : n0 ≤ z13.heap.size := HN.out
            replace HL : Hid ((z13.alloc (.cells #[.int .i64 0, .int .i64 0, .int .i64 0] 27)).heap[gs]? = some (.cells #[.int .i64 1, .int .i64 3, .int .i64 0, .int .i64 4] 3 (0, 0))) := Lib.hid ((hb.block gs (Array.getElem?_eq_some_iff.1 HL.out).1).trans HL.out)
            replace HS : Hid ((∃ kd, DiceAt (z13.alloc (.cells #[.int .i64 0, .int .i64 0, .int .i64 0] 27)) w.heap.size D t kd) ∧ GOwn (z13.alloc (.cells #[.int .i64 0, .int .i64 0, .int .i64 0] 27)) P G v0 ∧ Below w.heap.size w (z13.alloc (.cells #[.int .i64 0, .int .i64 0, .int .i64 0] 27)) ∧ (z13.alloc (.cells #[.int .i64 0, .int .i64 0, .int .i64 0] 27)).heap[g0]? = some (.cells #[.int .i64 G.sz, .slice A n c, .slice B m k] 25 (0, 0))) := Lib.hid ⟨(by obtain ⟨kd, hk⟩ := HS.out.1; exact ⟨kd, hk.later hb⟩), HS.out.2.1.later hb, HS.out.2.2.1.trans (hb.mono HS.out.2.2.1.size), (hb.block g0 (Array.getElem?_eq_some_iff.1 HS.out.2.2.2).1).trans HS.out.2.2.2⟩
            replace HN := Lib.hid (Nat.le_trans HN.out hb.size)
            clear hb
            generalize z13.alloc (.cells #[.int .i64 0, .int .i64 0, .int .i64 0] 27) = z16 at *
            generalize z13.heap.size = g5 at *
            refine flow_one (F := BN D n0) (fun _ _ _ => BN.trans) (fun _ => BN.refl _ _ _) 15 (by kernel_rfl) (by decide) ?_
            simp only [pick, List.getD_cons_zero, List.getD_cons_succ]
            go_wp2_with fail
            refine (of_g w.heap.size D t (some ⟨gs, 0, none⟩) 4 4 [1, 3, 0, 4] z16 HS.out.1 (row4 HL.out) (fun ad e => by injection e with e; subst e; show gs ≠ D; omega) (by decide) (by decide)).mono ?_
            rintro e z17 ⟨ve, rfl, hve1, hg⟩
            clear hve1
            have HF : Hid (BN D n0 z16 z17) := Lib.hid (BN.but hg.2 HN.out)
            replace HN := Lib.hid (Nat.le_trans HN.out hg.2.size)
            replace HA : Hid (z17.heap[g5]? = some (.cells #[.int .i64 0, .int .i64 0, .int .i64 0] 27 (0, 0))) := Lib.hid ((hg.2.block g5 (Array.getElem?_eq_some_iff.1 HA.out).1 (by omega)).trans HA.out)
            replace HL : Hid (z17.heap[gs]? = some (.cells #[.int .i64 1, .int .i64 3, .int .i64 0, .int .i64 4] 3 (0, 0))) := Lib.hid ((hg.2.block gs (Array.getElem?_eq_some_iff.1 HL.out).1 (by omega)).trans HL.out)
            replace HS : Hid ((∃ kd, DiceAt z17 w.heap.size D t kd) ∧ GOwn z17 P G v0 ∧ Below w.heap.size w z17 ∧ z17.heap[g0]? = some (.cells #[.int .i64 G.sz, .slice A n c, .slice B m k] 25 (0, 0))) := Lib.hid ⟨hg.1, HS.out.2.1.but hg.2 HDP.out, HS.out.2.2.1.trans (hg.2.below (by have := HDD.out; omega) HS.out.2.2.1.size), (hg.2.block g0 (Array.getElem?_eq_some_iff.1 HS.out.2.2.2).1 (by omega)).trans HS.out.2.2.2⟩
            clear hg
            go_wp2_with fail
            refine pieceEnd_normal ⟨HF.out, ?_⟩
            clear HF
            refine flow_val (F := BN D n0) (fun _ => BN.refl _ _ _) (by kernel_rfl) 16 (by kernel_rfl) ?_
            simp only [pick, List.getD_cons_zero, List.getD_cons_succ]
            repeat (go_big_quiet_step (fail))
            refine wpQuiet_nil ?_
            refine flow_one (F := BN D n0) (fun _ _ _ => BN.trans) (fun _ => BN.refl _ _ _) 18 (by kernel_rfl) (by decide) ?_
            simp only [pick, List.getD_cons_zero, List.getD_cons_succ]
            go_wp2_with (refine wpList_store_row rfl 27 (.tmp 7) (.tmp 39) rfl g5 #[.int .i64 (v0e - v1e), .int .i64 v2e, .int .i64 ve] rfl rfl 27 _ HA.out (Edg.info ⟨v0e - v1e, v2e, ve⟩) rfl (by simp [Value.oneCell']) ?_)
            refine pieceEnd_normal ⟨BN.row _ _ hg5, ?_⟩
            have HA5 := Lib.hid (setRow_heap z17 g5 _ #[.int .i64 (v0e - v1e), .int .i64 v2e, .int .i64 ve] _ _ HA.out)
            have HGO : Hid (g0 ≠ g5) := Lib.hid (by omega)
            have HOW : Hid (GOwn (z17.setRow g5 #[.int .i64 (v0e - v1e), .int .i64 v2e, .int .i64 ve]) P G v0) := Lib.hid (by
             obtain ⟨e, gv, he, h1, h2⟩ := HS.out.2.1
             exact ⟨e, gv, he, own_keepL h1 fun q hq => setRow_other z17 g5 q #[.int .i64 (v0e - v1e), .int .i64 v2e, .int .i64 ve] (HOB.out e gv he q (.inl hq) hg5), own_keepL h2 fun q hq => setRow_other z17 g5 q #[.int .i64 (v0e - v1e), .int .i64 v2e, .int .i64 ve] (HOB.out e gv he q (.inr hq) hg5)⟩)
            have HBS : Hid (Below w.heap.size z17 (z17.setRow g5 #[.int .i64 (v0e - v1e), .int .i64 v2e, .int .i64 ve])) := Lib.hid (below_setRow (Below.refl _ _) (by have := HS.out.2.2.1.size; have h8 := HWG.out; omega) #[.int .i64 (v0e - v1e), .int .i64 v2e, .int .i64 ve])
            refine flow_done (by kernel_rfl) ?_
            go_wp2_with fail
            go_meet
            exact ⟨g5, ⟨v0e - v1e, v2e, ve⟩, rfl, Lib.hid ⟨(by obtain ⟨kd, hk⟩ := HS.out.1; exact ⟨kd, hk.below (below_setRow (Below.refl _ _) (Nat.le_refl g5) #[.int .i64 (v0e - v1e), .int .i64 v2e, .int .i64 ve]) (by omega)⟩), HOW.out, HS.out.2.2.1.trans HBS.out, (setRow_other z17 g5 g0 #[.int .i64 (v0e - v1e), .int .i64 v2e, .int .i64 ve] HGO.out).trans HS.out.2.2.2, HA5.out, by omega⟩⟩
          ·
           skip
           go_wp2_with fail
           have hb := one_new z12 (.cells #[.int .i64 0, .int .i64 0, .int .i64 0] 27)
           refine pieceEnd_normal ⟨BN.later hb HN.out, ?_⟩
           have HA : Hid ((z12.alloc (.cells #[.int .i64 0, .int .i64 0, .int .i64 0] 27)).heap[z12.heap.size]? = some (.cells #[.int .i64 0, .int .i64 0, .int .i64 0] 27 (0, 0))) := Lib.hid (heap_alloc_new _ _)
           have hg5 : n0 ≤ z12.heap.size := HN.out
           replace HL : Hid ((z12.alloc (.cells #[.int .i64 0, .int .i64 0, .int .i64 0] 27)).heap[gs]? = some (.cells #[.int .i64 1, .int .i64 3, .int .i64 0, .int .i64 4] 3 (0, 0))) := Lib.hid ((hb.block gs (Array.getElem?_eq_some_iff.1 HL.out).1).trans HL.out)
           replace HS : Hid ((∃ kd, DiceAt (z12.alloc (.cells #[.int .i64 0, .int .i64 0, .int .i64 0] 27)) w.heap.size D t kd) ∧ GOwn (z12.alloc (.cells #[.int .i64 0, .int .i64 0, .int .i64 0] 27)) P G v0 ∧ Below w.heap.size w (z12.alloc (.cells #[.int .i64 0, .int .i64 0, .int .i64 0] 27)) ∧ (z12.alloc (.cells #[.int .i64 0, .int .i64 0, .int .i64 0] 27)).heap[g0]? = some (.cells #[.int .i64 G.sz, .slice A n c, .slice B m k] 25 (0, 0))) := Lib.hid ⟨(by obtain ⟨kd, hk⟩ := HS.out.1; exact ⟨kd, hk.later hb⟩), HS.out.2.1.later hb, HS.out.2.2.1.trans (hb.mono HS.out.2.2.1.size), (hb.block g0 (Array.getElem?_eq_some_iff.1 HS.out.2.2.2).1).trans HS.out.2.2.2⟩
           replace HN := Lib.hid (Nat.le_trans HN.out hb.size)
           clear hb
           generalize z12.alloc (.cells #[.int .i64 0, .int .i64 0, .int .i64 0] 27) = z18 at *
           generalize z12.heap.size = g5 at *
           refine flow_one (F := BN D n0) (fun _ _ _ => BN.trans) (fun _ => BN.refl _ _ _) 12 (by kernel_rfl) (by decide) ?_
           simp only [pick, List.getD_cons_zero, List.getD_cons_succ]
           go_wp2_with fail
           refine (next_g w.heap.size D t (G.sz + 1) z18 HS.out.1 (by omega) (by omega)).mono ?_
           rintro e z19 ⟨v2e, rfl, hv2e0, hv2e1, hg⟩
           have HF : Hid (BN D n0 z18 z19) := Lib.hid (BN.but hg.2 HN.out)
           replace HN := Lib.hid (Nat.le_trans HN.out hg.2.size)
           replace HA : Hid (z19.heap[g5]? = some (.cells #[.int .i64 0, .int .i64 0, .int .i64 0] 27 (0, 0))) := Lib.hid ((hg.2.block g5 (Array.getElem?_eq_some_iff.1 HA.out).1 (by omega)).trans HA.out)
           replace HL : Hid (z19.heap[gs]? = some (.cells #[.int .i64 1, .int .i64 3, .int .i64 0, .int .i64 4] 3 (0, 0))) := Lib.hid ((hg.2.block gs (Array.getElem?_eq_some_iff.1 HL.out).1 (by omega)).trans HL.out)
           replace HS : Hid ((∃ kd, DiceAt z19 w.heap.size D t kd) ∧ GOwn z19 P G v0 ∧ Below w.heap.size w z19 ∧ z19.heap[g0]? = some (.cells #[.int .i64 G.sz, .slice A n c, .slice B m k] 25 (0, 0))) := Lib.hid ⟨hg.1, HS.out.2.1.but hg.2 HDP.out, HS.out.2.2.1.trans (hg.2.below (by have := HDD.out; omega) HS.out.2.2.1.size), (hg.2.block g0 (Array.getElem?_eq_some_iff.1 HS.out.2.2.2).1 (by omega)).trans HS.out.2.2.2⟩
           clear hg
           go_wp2_with fail
           refine pieceEnd_normal ⟨HF.out, ?_⟩
           clear HF
           refine flow_one (F := BN D n0) (fun _ _ _ => BN.trans) (fun _ => BN.refl _ _ _) 15 (by kernel_rfl) (by decide) ?_
           simp only [pick, List.getD_cons_zero, List.getD_cons_succ]
           go_wp2_with fail
           refine (of_g w.heap.size D t (some ⟨gs, 0, none⟩) 4 4 [1, 3, 0, 4] z19 HS.out.1 (row4 HL.out) (fun ad e => by injection e with e; subst e; show gs ≠ D; omega) (by decide) (by decide)).mono ?_
           rintro e z20 ⟨ve, rfl, hve1, hg⟩
           clear hve1
           have HF : Hid (BN D n0 z19 z20) := Lib.hid (BN.but hg.2 HN.out)
           replace HN := Lib.hid (Nat.le_trans HN.out hg.2.size)
           replace HA : Hid (z20.heap[g5]? = some (.cells #[.int .i64 0, .int .i64 0, .int .i64 0] 27 (0, 0))) := Lib.hid ((hg.2.block g5 (Array.getElem?_eq_some_iff.1 HA.out).1 (by omega)).trans HA.out)
           replace HL : Hid (z20.heap[gs]? = some (.cells #[.int .i64 1, .int .i64 3, .int .i64 0, .int .i64 4] 3 (0, 0))) := Lib.hid ((hg.2.block gs (Array.getElem?_eq_some_iff.1 HL.out).1 (by omega)).trans HL.out)
           replace HS : Hid ((∃ kd, DiceAt z20 w.heap.size D t kd) ∧ GOwn z20 P G v0 ∧ Below w.heap.size w z20 ∧ z20.heap[g0]? = some (.cells #[.int .i64 G.sz, .slice A n c, .slice B m k] 25 (0, 0))) := Lib.hid ⟨hg.1, HS.out.2.1.but hg.2 HDP.out, HS.out.2.2.1.trans (hg.2.below (by have := HDD.out; omega) HS.out.2.2.1.size), (hg.2.block g0 (Array.getElem?_eq_some_iff.1 HS.out.2.2.2).1 (by omega)).trans HS.out.2.2.2⟩
           clear hg
           go_wp2_with fail
           refine pieceEnd_normal ⟨HF.out, ?_⟩
           clear HF
           refine flow_val (F := BN D n0) (fun _ => BN.refl _ _ _) (by kernel_rfl) 16 (by kernel_rfl) ?_
           simp only [pick, List.getD_cons_zero, List.getD_cons_succ]
           repeat (go_big_quiet_step (fail))
           refine wpQuiet_nil ?_
           refine flow_one (F := BN D n0) (fun _ _ _ => BN.trans) (fun _ => BN.refl _ _ _) 18 (by kernel_rfl) (by decide) ?_
           simp only [pick, List.getD_cons_zero, List.getD_cons_succ]
           go_wp2_with (refine wpList_store_row rfl 27 (.tmp 7) (.tmp 39) rfl g5 #[.int .i64 (v0e - v1e), .int .i64 v2e, .int .i64 ve] rfl rfl 27 _ HA.out (Edg.info ⟨v0e - v1e, v2e, ve⟩) rfl (by simp [Value.oneCell']) ?_)
           refine pieceEnd_normal ⟨BN.row _ _ hg5, ?_⟩
           have HA5 := Lib.hid (setRow_heap z20 g5 _ #[.int .i64 (v0e - v1e), .int .i64 v2e, .int .i64 ve] _ _ HA.out)
           have HGO : Hid (g0 ≠ g5) := Lib.hid (by omega)
           have HOW : Hid (GOwn (z20.setRow g5 #[.int .i64 (v0e - v1e), .int .i64 v2e, .int .i64 ve]) P G v0) := Lib.hid (by
            obtain ⟨e, gv, he, h1, h2⟩ := HS.out.2.1
            exact ⟨e, gv, he, own_keepL h1 fun q hq => setRow_other z20 g5 q #[.int .i64 (v0e - v1e), .int .i64 v2e, .int .i64 ve] (HOB.out e gv he q (.inl hq) hg5), own_keepL h2 fun q hq => setRow_other z20 g5 q #[.int .i64 (v0e - v1e), .int .i64 v2e, .int .i64 ve] (HOB.out e gv he q (.inr hq) hg5)⟩)
           have HBS : Hid (Below w.heap.size z20 (z20.setRow g5 #[.int .i64 (v0e - v1e), .int .i64 v2e, .int .i64 ve])) := Lib.hid (below_setRow (Below.refl _ _) (by have := HS.out.2.2.1.size; have h8 := HWG.out; omega) #[.int .i64 (v0e - v1e), .int .i64 v2e, .int .i64 ve])
           refine flow_done (by kernel_rfl) ?_
           go_wp2_with fail
           go_meet
           exact ⟨g5, ⟨v0e - v1e, v2e, ve⟩, rfl, Lib.hid ⟨(by obtain ⟨kd, hk⟩ := HS.out.1; exact ⟨kd, hk.below (below_setRow (Below.refl _ _) (Nat.le_refl g5) #[.int .i64 (v0e - v1e), .int .i64 v2e, .int .i64 ve]) (by omega)⟩), HOW.out, HS.out.2.2.1.trans HBS.out, (setRow_other z20 g5 g0 #[.int .i64 (v0e - v1e), .int .i64 v2e, .int .i64 ve] HGO.out).trans HS.out.2.2.2, HA5.out, by omega⟩⟩
        ·
         as_aux_lemma =>
          go_wp2_with fail
          have hb := one_new z2 (.cells #[.int .i64 0, .int .i64 0, .int .i64 0] 27)
          refine pieceEnd_normal ⟨BN.later hb HN.out, ?_⟩
          have HA : Hid ((z2.alloc (.cells #[.int .i64 0, .int .i64 0, .int .i64 0] 27)).heap[z2.heap.size]? = some (.cells #[.int .i64 0, .int .i64 0, .int .i64 0] 27 (0, 0))) := Lib.hid (heap_alloc_new _ _)
          have hg5 : n0 ≤ z2.heap.size := HN.out
          replace HS : Hid ((∃ kd, DiceAt (z2.alloc (.cells #[.int .i64 0, .int .i64 0, .int .i64 0] 27)) w.heap.size D t kd) ∧ GOwn (z2.alloc (.cells #[.int .i64 0, .int .i64 0, .int .i64 0] 27)) P G v0 ∧ Below w.heap.size w (z2.alloc (.cells #[.int .i64 0, .int .i64 0, .int .i64 0] 27)) ∧ (z2.alloc (.cells #[.int .i64 0, .int .i64 0, .int .i64 0] 27)).heap[g0]? = some (.cells #[.int .i64 G.sz, .slice A n c, .slice B m k] 25 (0, 0))) := Lib.hid ⟨(by obtain ⟨kd, hk⟩ := HS.out.1; exact ⟨kd, hk.later hb⟩), HS.out.2.1.later hb, HS.out.2.2.1.trans (hb.mono HS.out.2.2.1.size), (hb.block g0 (Array.getElem?_eq_some_iff.1 HS.out.2.2.2).1).trans HS.out.2.2.2⟩
          replace HN := Lib.hid (Nat.le_trans HN.out hb.size)
          clear hb
          generalize z2.alloc (.cells #[.int .i64 0, .int .i64 0, .int .i64 0] 27) = z21 at *
          generalize z2.heap.size = g5 at *
          refine flow_two (F := BN D n0) (fun _ _ _ => BN.trans) (fun _ => BN.refl _ _ _) 12 14 (by kernel_rfl) (by decide) (by decide) ?_ ?_ <;> simp only [pick, List.getD_cons_zero, List.getD_cons_succ]
          ·
           skip
           go_wp2_with fail
           refine (next_g w.heap.size D t (G.sz + 1) z21 HS.out.1 (by omega) (by omega)).mono ?_
           rintro e z22 ⟨v2e, rfl, hv2e0, hv2e1, hg⟩
           have HF : Hid (BN D n0 z21 z22) := Lib.hid (BN.but hg.2 HN.out)
           replace HN := Lib.hid (Nat.le_trans HN.out hg.2.size)
           replace HA : Hid (z22.heap[g5]? = some (.cells #[.int .i64 0, .int .i64 0, .int .i64 0] 27 (0, 0))) := Lib.hid ((hg.2.block g5 (Array.getElem?_eq_some_iff.1 HA.out).1 (by omega)).trans HA.out)
           replace HS : Hid ((∃ kd, DiceAt z22 w.heap.size D t kd) ∧ GOwn z22 P G v0 ∧ Below w.heap.size w z22 ∧ z22.heap[g0]? = some (.cells #[.int .i64 G.sz, .slice A n c, .slice B m k] 25 (0, 0))) := Lib.hid ⟨hg.1, HS.out.2.1.but hg.2 HDP.out, HS.out.2.2.1.trans (hg.2.below (by have := HDD.out; omega) HS.out.2.2.1.size), (hg.2.block g0 (Array.getElem?_eq_some_iff.1 HS.out.2.2.2).1 (by omega)).trans HS.out.2.2.2⟩
           clear hg
           go_wp2_with fail
           refine pieceEnd_normal ⟨HF.out, ?_⟩
           clear HF
           refine flow_one (F := BN D n0) (fun _ _ _ => BN.trans) (fun _ => BN.refl _ _ _) 14 (by kernel_rfl) (by decide) ?_
           simp only [pick, List.getD_cons_zero, List.getD_cons_succ]
           go_wp2_with fail
           have hb := one_new z22 (.cells #[.int .i64 1, .int .i64 3, .int .i64 0, .int .i64 4] 3)
           refine pieceEnd_normal ⟨BN.later hb HN.out, ?_⟩
           have HL : Hid ((z22.alloc (.cells #[.int .i64 1, .int .i64 3, .int .i64 0, .int .i64 4] 3)).heap[z22.heap.size]? = some (.cells #[.int .i64 1, .int .i64 3, .int .i64 0, .int .i64 4] 3 (0, 0))) := Lib.hid (heap_alloc_new _ _)
           have hgs : n0 ≤ z22.heap.size := HN.out
           replace HA : Hid ((z22.alloc (.cells #[.int .i64 1, .int .i64 3, .int .i64 0, .int .i64 4] 3)).heap[g5]? = some (.cells #[.int .i64 0, .int .i64 0, .int .i64 0] 27 (0, 0))) := Lib.hid ((hb.block g5 (Array.getElem?_eq_some_iff.1 HA.out).1).trans HA.out)
           replace HS : Hid ((∃ kd, DiceAt (z22.alloc (.cells #[.int .i64 1, .int .i64 3, .int .i64 0, .int .i64 4] 3)) w.heap.size D t kd) ∧ GOwn (z22.alloc (.cells #[.int .i64 1, .int .i64 3, .int .i64 0, .int .i64 4] 3)) P G v0 ∧ Below w.heap.size w (z22.alloc (.cells #[.int .i64 1, .int .i64 3, .int .i64 0, .int .i64 4] 3)) ∧ (z22.alloc (.cells #[.int .i64 1, .int .i64 3, .int .i64 0, .int .i64 4] 3)).heap[g0]? = some (.cells #[.int .i64 G.sz, .slice A n c, .slice B m k] 25 (0, 0))) := Lib.hid ⟨(by obtain ⟨kd, hk⟩ := HS.out.1; exact ⟨kd, hk.later hb⟩), HS.out.2.1.later hb, HS.out.2.2.1.trans (hb.mono HS.out.2.2.1.size), (hb.block g0 (Array.getElem?_eq_some_iff.1 HS.out.2.2.2).1).trans HS.out.2.2.2⟩
           replace HN := Lib.hid (Nat.le_trans HN.out hb.size)
           clear hb
           generalize z22.alloc (.cells #[.int .i64 1, .int .i64 3, .int .i64 0, .int .i64 4] 3) = z23 at *
           generalize z22.heap.size = gs at *
           refine flow_one (F := BN D n0) (fun _ _ _ => BN.trans) (fun _ => BN.refl _ _ _) 15 (by kernel_rfl) (by decide) ?_
           simp only [pick, List.getD_cons_zero, List.getD_cons_succ]
           go_wp2_with fail
           refine (of_g w.heap.size D t (some ⟨gs, 0, none⟩) 4 4 [1, 3, 0, 4] z23 HS.out.1 (row4 HL.out) (fun ad e => by injection e with e; subst e; show gs ≠ D; omega) (by decide) (by decide)).mono ?_
           rintro e z24 ⟨ve, rfl, hve1, hg⟩
           clear hve1
           have HF : Hid (BN D n0 z23 z24) := Lib.hid (BN.but hg.2 HN.out)
           replace HN := Lib.hid (Nat.le_trans HN.out hg.2.size)
           replace HA : Hid (z24.heap[g5]? = some (.cells #[.int .i64 0, .int .i64 0, .int .i64 0] 27 (0, 0))) := Lib.hid ((hg.2.block g5 (Array.getElem?_eq_some_iff.1 HA.out).1 (by omega)).trans HA.out)
           replace HL : Hid (z24.heap[gs]? = some (.cells #[.int .i64 1, .int .i64 3, .int .i64 0, .int .i64 4] 3 (0, 0))) := Lib.hid ((hg.2.block gs (Array.getElem?_eq_some_iff.1 HL.out).1 (by omega)).trans HL.out)
           replace HS : Hid ((∃ kd, DiceAt z24 w.heap.size D t kd) ∧ GOwn z24 P G v0 ∧ Below w.heap.size w z24 ∧ z24.heap[g0]? = some (.cells #[.int .i64 G.sz, .slice A n c, .slice B m k] 25 (0, 0))) := Lib.hid ⟨hg.1, HS.out.2.1.but hg.2 HDP.out, HS.out.2.2.1.trans (hg.2.below (by have := HDD.out; omega) HS.out.2.2.1.size), (hg.2.block g0 (Array.getElem?_eq_some_iff.1 HS.out.2.2.2).1 (by omega)).trans HS.out.2.2.2⟩
           clear hg
           go_wp2_with fail
           refine pieceEnd_normal ⟨HF.out, ?_⟩
           clear HF
           refine flow_val (F := BN D n0) (fun _ => BN.refl _ _ _) (by kernel_rfl) 16 (by kernel_rfl) ?_
           simp only [pick, List.getD_cons_zero, List.getD_cons_succ]
           repeat (go_big_quiet_step (fail))
           refine wpQuiet_nil ?_
           refine flow_one (F := BN D n0) (fun _ _ _ => BN.trans) (fun _ => BN.refl _ _ _) 18 (by kernel_rfl) (by decide) ?_
           simp only [pick, List.getD_cons_zero, List.getD_cons_succ]
           go_wp2_with (refine wpList_store_row rfl 27 (.tmp 7) (.tmp 39) rfl g5 #[.int .i64 (v0e - v1e), .int .i64 v2e, .int .i64 ve] rfl rfl 27 _ HA.out (Edg.info ⟨v0e - v1e, v2e, ve⟩) rfl (by simp [Value.oneCell']) ?_)
           refine pieceEnd_normal ⟨BN.row _ _ hg5, ?_⟩
           have HA5 := Lib.hid (setRow_heap z24 g5 _ #[.int .i64 (v0e - v1e), .int .i64 v2e, .int .i64 ve] _ _ HA.out)
           have HGO : Hid (g0 ≠ g5) := Lib.hid (by omega)
           have HOW : Hid (GOwn (z24.setRow g5 #[.int .i64 (v0e - v1e), .int .i64 v2e, .int .i64 ve]) P G v0) := Lib.hid (by
            obtain ⟨e, gv, he, h1, h2⟩ := HS.out.2.1
            exact ⟨e, gv, he, own_keepL h1 fun q hq => setRow_other z24 g5 q #[.int .i64 (v0e - v1e), .int .i64 v2e, .int .i64 ve] (HOB.out e gv he q (.inl hq) hg5), own_keepL h2 fun q hq => setRow_other z24 g5 q #[.int .i64 (v0e - v1e), .int .i64 v2e, .int .i64 ve] (HOB.out e gv he q (.inr hq) hg5)⟩)
           have HBS : Hid (Below w.heap.size z24 (z24.setRow g5 #[.int .i64 (v0e - v1e), .int .i64 v2e, .int .i64 ve])) := Lib.hid (below_setRow (Below.refl _ _) (by have := HS.out.2.2.1.size; have h8 := HWG.out; omega) #[.int .i64 (v0e - v1e), .int .i64 v2e, .int .i64 ve])
           refine flow_done (by kernel_rfl) ?_
           go_wp2_with fail
           go_meet
           exact ⟨g5, ⟨v0e - v1e, v2e, ve⟩, rfl, Lib.hid ⟨(by obtain ⟨kd, hk⟩ := HS.out.1; exact ⟨kd, hk.below (below_setRow (Below.refl _ _) (Nat.le_refl g5) #[.int .i64 (v0e - v1e), .int .i64 v2e, .int .i64 ve]) (by omega)⟩), HOW.out, HS.out.2.2.1.trans HBS.out, (setRow_other z24 g5 g0 #[.int .i64 (v0e - v1e), .int .i64 v2e, .int .i64 ve] HGO.out).trans HS.out.2.2.2, HA5.out, by omega⟩⟩
          ·
           skip
           go_wp2_with fail
           have hb := one_new z21 (.cells #[.int .i64 1, .int .i64 3, .int .i64 0, .int .i64 4] 3)
           refine pieceEnd_normal ⟨BN.later hb HN.out, ?_⟩
           have HL : Hid ((z21.alloc (.cells #[.int .i64 1, .int .i64 3, .int .i64 0, .int .i64 4] 3)).heap[z21.heap.size]? = some (.cells #[.int .i64 1, .int .i64 3, .int .i64 0, .int .i64 4] 3 (0, 0))) := Lib.hid (heap_alloc_new _ _)
           have hgs : n0 ≤ z21.heap.size := HN.out
           replace HA : Hid ((z21.alloc (.cells #[.int .i64 1, .int .i64 3, .int .i64 0, .int .i64 4] 3)).heap[g5]? = some (.cells #[.int .i64 0, .int .i64 0, .int .i64 0] 27 (0, 0))) := Lib.hid ((hb.block g5 (Array.getElem?_eq_some_iff.1 HA.out).1).trans HA.out)
           replace HS : Hid ((∃ kd, DiceAt (z21.alloc (.cells #[.int .i64 1, .int .i64 3, .int .i64 0, .int .i64 4] 3)) w.heap.size D t kd) ∧ GOwn (z21.alloc (.cells #[.int .i64 1, .int .i64 3, .int .i64 0, .int .i64 4] 3)) P G v0 ∧ Below w.heap.size w (z21.alloc (.cells #[.int .i64 1, .int .i64 3, .int .i64 0, .int .i64 4] 3)) ∧ (z21.alloc (.cells #[.int .i64 1, .int .i64 3, .int .i64 0, .int .i64 4] 3)).heap[g0]? = some (.cells #[.int .i64 G.sz, .slice A n c, .slice B m k] 25 (0, 0))) := Lib.hid ⟨(by obtain ⟨kd, hk⟩ := HS.out.1; exact ⟨kd, hk.later hb⟩), HS.out.2.1.later hb, HS.out.2.2.1.trans (hb.mono HS.out.2.2.1.size), (hb.block g0 (Array.getElem?_eq_some_iff.1 HS.out.2.2.2).1).trans HS.out.2.2.2⟩
           replace HN := Lib.hid (Nat.le_trans HN.out hb.size)
           clear hb
           generalize z21.alloc (.cells #[.int .i64 1, .int .i64 3, .int .i64 0, .int .i64 4] 3) = z25 at *
           generalize z21.heap.size = gs at *
           refine flow_one (F := BN D n0) (fun _ _ _ => BN.trans) (fun _ => BN.refl _ _ _) 12 (by kernel_rfl) (by decide) ?_
           simp only [pick, List.getD_cons_zero, List.getD_cons_succ]
           go_wp2_with fail
           refine (next_g w.heap.size D t (G.sz + 1) z25 HS.out.1 (by omega) (by omega)).mono ?_
           rintro e z26 ⟨v2e, rfl, hv2e0, hv2e1, hg⟩
           have HF : Hid (BN D n0 z25 z26) := Lib.hid (BN.but hg.2 HN.out)
           replace HN := Lib.hid (Nat.le_trans HN.out hg.2.size)
           replace HA : Hid (z26.heap[g5]? = some (.cells #[.int .i64 0, .int .i64 0, .int .i64 0] 27 (0, 0))) := Lib.hid ((hg.2.block g5 (Array.getElem?_eq_some_iff.1 HA.out).1 (by omega)).trans HA.out)
           replace HL : Hid (z26.heap[gs]? = some (.cells #[.int .i64 1, .int .i64 3, .int .i64 0, .int .i64 4] 3 (0, 0))) := Lib.hid ((hg.2.block gs (Array.getElem?_eq_some_iff.1 HL.out).1 (by omega)).trans HL.out)
           replace HS : Hid ((∃ kd, DiceAt z26 w.heap.size D t kd) ∧ GOwn z26 P G v0 ∧ Below w.heap.size w z26 ∧ z26.heap[g0]? = some (.cells #[.int .i64 G.sz, .slice A n c, .slice B m k] 25 (0, 0))) := Lib.hid ⟨hg.1, HS.out.2.1.but hg.2 HDP.out, HS.out.2.2.1.trans (hg.2.below (by have := HDD.out; omega) HS.out.2.2.1.size), (hg.2.block g0 (Array.getElem?_eq_some_iff.1 HS.out.2.2.2).1 (by omega)).trans HS.out.2.2.2⟩
           clear hg
           go_wp2_with fail
           refine pieceEnd_normal ⟨HF.out, ?_⟩
           clear HF
           refine flow_one (F := BN D n0) (fun _ _ _ => BN.trans) (fun _ => BN.refl _ _ _) 15 (by kernel_rfl) (by decide) ?_
           simp only [pick, List.getD_cons_zero, List.getD_cons_succ]
           go_wp2_with fail
           refine (of_g w.heap.size D t (some ⟨gs, 0, none⟩) 4 4 [1, 3, 0, 4] z26 HS.out.1 (row4 HL.out) (fun ad e => by injection e with e; subst e; show gs ≠ D; omega) (by decide) (by decide)).mono ?_
           rintro e z27 ⟨ve, rfl, hve1, hg⟩
           clear hve1
           have HF : Hid (BN D n0 z26 z27) := Lib.hid (BN.but hg.2 HN.out)
           replace HN := Lib.hid (Nat.le_trans HN.out hg.2.size)
           replace HA : Hid (z27.heap[g5]? = some (.cells #[.int .i64 0, .int .i64 0, .int .i64 0] 27 (0, 0))) := Lib.hid ((hg.2.block g5 (Array.getElem?_eq_some_iff.1 HA.out).1 (by omega)).trans HA.out)
           replace HL : Hid (z27.heap[gs]? = some (.cells #[.int .i64 1, .int .i64 3, .int .i64 0, .int .i64 4] 3 (0, 0))) := Lib.hid ((hg.2.block gs (Array.getElem?_eq_some_iff.1 HL.out).1 (by omega)).trans HL.out)
           replace HS : Hid ((∃ kd, DiceAt z27 w.heap.size D t kd) ∧ GOwn z27 P G v0 ∧ Below w.heap.size w z27 ∧ z27.heap[g0]? = some (.cells #[.int .i64 G.sz, .slice A n c, .slice B m k] 25 (0, 0))) := Lib.hid ⟨hg.1, HS.out.2.1.but hg.2 HDP.out, HS.out.2.2.1.trans (hg.2.below (by have := HDD.out; omega) HS.out.2.2.1.size), (hg.2.block g0 (Array.getElem?_eq_some_iff.1 HS.out.2.2.2).1 (by omega)).trans HS.out.2.2.2⟩
           clear hg
           go_wp2_with fail
           refine pieceEnd_normal ⟨HF.out, ?_⟩
           clear HF
           refine flow_val (F := BN D n0) (fun _ => BN.refl _ _ _) (by kernel_rfl) 16 (by kernel_rfl) ?_
           simp only [pick, List.getD_cons_zero, List.getD_cons_succ]
           repeat (go_big_quiet_step (fail))
           refine wpQuiet_nil ?_
           refine flow_one (F := BN D n0) (fun _ _ _ => BN.trans) (fun _ => BN.refl _ _ _) 18 (by kernel_rfl) (by decide) ?_
           simp only [pick, List.getD_cons_zero, List.getD_cons_succ]
           go_wp2_with (refine wpList_store_row rfl 27 (.tmp 7) (.tmp 39) rfl g5 #[.int .i64 (v0e - v1e), .int .i64 v2e, .int .i64 ve] rfl rfl 27 _ HA.out (Edg.info ⟨v0e - v1e, v2e, ve⟩) rfl (by simp [Value.oneCell']) ?_)
           refine pieceEnd_normal ⟨BN.row _ _ hg5, ?_⟩
           have HA5 := Lib.hid (setRow_heap z27 g5 _ #[.int .i64 (v0e - v1e), .int .i64 v2e, .int .i64 ve] _ _ HA.out)
           have HGO : Hid (g0 ≠ g5) := Lib.hid (by omega)
           have HOW : Hid (GOwn (z27.setRow g5 #[.int .i64 (v0e - v1e), .int .i64 v2e, .int .i64 ve]) P G v0) := Lib.hid (by
            obtain ⟨e, gv, he, h1, h2⟩ := HS.out.2.1
            exact ⟨e, gv, he, own_keepL h1 fun q hq => setRow_other z27 g5 q #[.int .i64 (v0e - v1e), .int .i64 v2e, .int .i64 ve] (HOB.out e gv he q (.inl hq) hg5), own_keepL h2 fun q hq => setRow_other z27 g5 q #[.int .i64 (v0e - v1e), .int .i64 v2e, .int .i64 ve] (HOB.out e gv he q (.inr hq) hg5)⟩)
           have HBS : Hid (Below w.heap.size z27 (z27.setRow g5 #[.int .i64 (v0e - v1e), .int .i64 v2e, .int .i64 ve])) := Lib.hid (below_setRow (Below.refl _ _) (by have := HS.out.2.2.1.size; have h8 := HWG.out; omega) #[.int .i64 (v0e - v1e), .int .i64 v2e, .int .i64 ve])
           refine flow_done (by kernel_rfl) ?_
           go_wp2_with fail
           go_meet
           exact ⟨g5, ⟨v0e - v1e, v2e, ve⟩, rfl, Lib.hid ⟨(by obtain ⟨kd, hk⟩ := HS.out.1; exact ⟨kd, hk.below (below_setRow (Below.refl _ _) (Nat.le_refl g5) #[.int .i64 (v0e - v1e), .int .i64 v2e, .int .i64 ve]) (by omega)⟩), HOW.out, HS.out.2.2.1.trans HBS.out, (setRow_other z27 g5 g0 #[.int .i64 (v0e - v1e), .int .i64 v2e, .int .i64 ve] HGO.out).trans HS.out.2.2.2, HA5.out, by omega⟩⟩
      ·
       as_aux_lemma =>
        go_wp2_with fail
        have hb := one_new z1 (.cells #[.int .i64 1, .int .i64 3, .int .i64 0, .int .i64 4] 3)
        refine pieceEnd_normal ⟨BN.later hb HN.out, ?_⟩
        have HL : Hid ((z1.alloc (.cells #[.int .i64 1, .int .i64 3, .int .i64 0, .int .i64 4] 3)).heap[z1.heap.size]? = some (.cells #[.int .i64 1, .int .i64 3, .int .i64 0, .int .i64 4] 3 (0, 0))) := Lib.hid (heap_alloc_new _ _)
        have hgs : n0 ≤ z1.heap.size := HN.out
        replace HS : Hid ((∃ kd, DiceAt (z1.alloc (.cells #[.int .i64 1, .int .i64 3, .int .i64 0, .int .i64 4] 3)) w.heap.size D t kd) ∧ GOwn (z1.alloc (.cells #[.int .i64 1, .int .i64 3, .int .i64 0, .int .i64 4] 3)) P G v0 ∧ Below w.heap.size w (z1.alloc (.cells #[.int .i64 1, .int .i64 3, .int .i64 0, .int .i64 4] 3)) ∧ (z1.alloc (.cells #[.int .i64 1, .int .i64 3, .int .i64 0, .int .i64 4] 3)).heap[g0]? = some (.cells #[.int .i64 G.sz, .slice A n c, .slice B m k] 25 (0, 0))) := Lib.hid ⟨(by obtain ⟨kd, hk⟩ := HS.out.1; exact ⟨kd, hk.later hb⟩), HS.out.2.1.later hb, HS.out.2.2.1.trans (hb.mono HS.out.2.2.1.size), (hb.block g0 (Array.getElem?_eq_some_iff.1 HS.out.2.2.2).1).trans HS.out.2.2.2⟩
        replace HN := Lib.hid (Nat.le_trans HN.out hb.size)
        clear hb
        generalize z1.alloc (.cells #[.int .i64 1, .int .i64 3, .int .i64 0, .int .i64 4] 3) = z28 at *
        generalize z1.heap.size = gs at *
        refine flow_two (F := BN D n0) (fun _ _ _ => BN.trans) (fun _ => BN.refl _ _ _) 6 17 (by kernel_rfl) (by decide) (by decide) ?_ ?_ <;> simp only [pick, List.getD_cons_zero, List.getD_cons_succ]
        ·
         as_aux_lemma =>
          go_wp2_with fail
          refine (next_g w.heap.size D t 2 z28 HS.out.1 (by omega) (by omega)).mono ?_
          rintro e z29 ⟨v1e, rfl, hv1e0, hv1e1, hg⟩
          have HF : Hid (BN D n0 z28 z29) := Lib.hid (BN.but hg.2 HN.out)
          replace HN := Lib.hid (Nat.le_trans HN.out hg.2.size)
          replace HL : Hid (z29.heap[gs]? = some (.cells #[.int .i64 1, .int .i64 3, .int .i64 0, .int .i64 4] 3 (0, 0))) := Lib.hid ((hg.2.block gs (Array.getElem?_eq_some_iff.1 HL.out).1 (by omega)).trans HL.out)
          replace HS : Hid ((∃ kd, DiceAt z29 w.heap.size D t kd) ∧ GOwn z29 P G v0 ∧ Below w.heap.size w z29 ∧ z29.heap[g0]? = some (.cells #[.int .i64 G.sz, .slice A n c, .slice B m k] 25 (0, 0))) := Lib.hid ⟨hg.1, HS.out.2.1.but hg.2 HDP.out, HS.out.2.2.1.trans (hg.2.below (by have := HDD.out; omega) HS.out.2.2.1.size), (hg.2.block g0 (Array.getElem?_eq_some_iff.1 HS.out.2.2.2).1 (by omega)).trans HS.out.2.2.2⟩
          clear hg
          go_wp2_with fail
          refine pieceEnd_normal ⟨HF.out, ?_⟩
          clear HF
          refine flow_reads (F := BN D n0) (fun _ => BN.refl _ _ _) (by kernel_rfl) [7] (fuel := 5) (by kernel_rfl) ?_
          simp only [List.map_cons, List.map_nil, pick, List.getD_cons_zero, List.getD_cons_succ]
          repeat (go_big_quiet_step (fail))
          refine wpQuiet_nil ?_
          refine flow_two (F := BN D n0) (fun _ _ _ => BN.trans) (fun _ => BN.refl _ _ _) 12 17 (by kernel_rfl) (by decide) (by decide) ?_ ?_ <;> simp only [pick, List.getD_cons_zero, List.getD_cons_succ]
          ·
           skip
           go_wp2_with fail
           refine (next_g w.heap.size D t (G.sz + 1) z29 HS.out.1 (by omega) (by omega)).mono ?_
           rintro e z30 ⟨v2e, rfl, hv2e0, hv2e1, hg⟩
           have HF : Hid (BN D n0 z29 z30) := Lib.hid (BN.but hg.2 HN.out)
           replace HN := Lib.hid (Nat.le_trans HN.out hg.2.size)
           replace HL : Hid (z30.heap[gs]? = some (.cells #[.int .i64 1, .int .i64 3, .int .i64 0, .int .i64 4] 3 (0, 0))) := Lib.hid ((hg.2.block gs (Array.getElem?_eq_some_iff.1 HL.out).1 (by omega)).trans HL.out)
           replace HS : Hid ((∃ kd, DiceAt z30 w.heap.size D t kd) ∧ GOwn z30 P G v0 ∧ Below w.heap.size w z30 ∧ z30.heap[g0]? = some (.cells #[.int .i64 G.sz, .slice A n c, .slice B m k] 25 (0, 0))) := Lib.hid ⟨hg.1, HS.out.2.1.but hg.2 HDP.out, HS.out.2.2.1.trans (hg.2.below (by have := HDD.out; omega) HS.out.2.2.1.size), (hg.2.block g0 (Array.getElem?_eq_some_iff.1 HS.out.2.2.2).1 (by omega)).trans HS.out.2.2.2⟩
           clear hg
           go_wp2_with fail
           refine pieceEnd_normal ⟨HF.out, ?_⟩
           clear HF
           refine flow_two (F := BN D n0) (fun _ _ _ => BN.trans) (fun _ => BN.refl _ _ _) 15 17 (by kernel_rfl) (by decide) (by decide) ?_ ?_ <;> simp only [pick, List.getD_cons_zero, List.getD_cons_succ]
           ·
            skip
            go_wp2_with fail
            refine (of_g w.heap.size D t (some ⟨gs, 0, none⟩) 4 4 [1, 3, 0, 4] z30 HS.out.1 (row4 HL.out) (fun ad e => by injection e with e; subst e; show gs ≠ D; omega) (by decide) (by decide)).mono ?_
            rintro e z31 ⟨ve, rfl, hve1, hg⟩
            clear hve1
            have HF : Hid (BN D n0 z30 z31) := Lib.hid (BN.but hg.2 HN.out)
            replace HN := Lib.hid (Nat.le_trans HN.out hg.2.size)
            replace HL : Hid (z31.heap[gs]? = some (.cells #[.int .i64 1, .int .i64 3, .int .i64 0, .int .i64 4] 3 (0, 0))) := Lib.hid ((hg.2.block gs (Array.getElem?_eq_some_iff.1 HL.out).1 (by omega)).trans HL.out)
            replace HS : Hid ((∃ kd, DiceAt z31 w.heap.size D t kd) ∧ GOwn z31 P G v0 ∧ Below w.heap.size w z31 ∧ z31.heap[g0]? = some (.cells #[.int .i64 G.sz, .slice A n c, .slice B m k] 25 (0, 0))) := Lib.hid ⟨hg.1, HS.out.2.1.but hg.2 HDP.out, HS.out.2.2.1.trans (hg.2.below (by have := HDD.out; omega) HS.out.2.2.1.size), (hg.2.block g0 (Array.getElem?_eq_some_iff.1 HS.out.2.2.2).1 (by omega)).trans HS.out.2.2.2⟩
            clear hg
            go_wp2_with fail
            refine pieceEnd_normal ⟨HF.out, ?_⟩
            clear HF
            refine flow_val (F := BN D n0) (fun _ => BN.refl _ _ _) (by kernel_rfl) 16 (by kernel_rfl) ?_
            simp only [pick, List.getD_cons_zero, List.getD_cons_succ]
            repeat (go_big_quiet_step (fail))
            refine wpQuiet_nil ?_
            refine flow_one (F := BN D n0) (fun _ _ _ => BN.trans) (fun _ => BN.refl _ _ _) 17 (by kernel_rfl) (by decide) ?_
            simp only [pick, List.getD_cons_zero, List.getD_cons_succ]
            go_wp2_with fail
            have hb := one_new z31 (.cells #[.int .i64 0, .int .i64 0, .int .i64 0] 27)
            refine pieceEnd_normal ⟨BN.later hb HN.out, ?_⟩
            have HA : Hid ((z31.alloc (.cells #[.int .i64 0, .int .i64 0, .int .i64 0] 27)).heap[z31.heap.size]? = some (.cells #[.int .i64 0, .int .i64 0, .int .i64 0] 27 (0, 0))) := Lib.hid (heap_alloc_new _ _)
            have hg5 : n0 ≤ z31.heap.size := HN.out
            replace HL : Hid ((z31.alloc (.cells #[.int .i64 0, .int .i64 0, .int .i64 0] 27)).heap[gs]? = some (.cells #[.int .i64 1, .int .i64 3, .int .i64 0, .int .i64 4] 3 (0, 0))) := Lib.hid ((hb.block gs (Array.getElem?_eq_some_iff.1 HL.out).1).trans HL.out)
            replace HS : Hid ((∃ kd, DiceAt (z31.alloc (.cells #[.int .i64 0, .int .i64 0, .int .i64 0] 27)) w.heap.size D t kd) ∧ GOwn (z31.alloc (.cells #[.int .i64 0, .int .i64 0, .int .i64 0] 27)) P G v0 ∧ Below w.heap.size w (z31.alloc (.cells #[.int .i64 0, .int .i64 0, .int .i64 0] 27)) ∧ (z31.alloc (.cells #[.int .i64 0, .int .i64 0, .int .i64 0] 27)).heap[g0]? = some (.cells #[.int .i64 G.sz, .slice A n c, .slice B m k] 25 (0, 0))) := Lib.hid ⟨(by obtain ⟨kd, hk⟩ := HS.out.1; exact ⟨kd, hk.later hb⟩), HS.out.2.1.later hb, HS.out.2.2.1.trans (hb.mono HS.out.2.2.1.size), (hb.block g0 (Array.getElem?_eq_some_iff.1 HS.out.2.2.2).1).trans HS.out.2.2.2⟩
            replace HN := Lib.hid (Nat.le_trans HN.out hb.size)
            clear hb
            generalize z31.alloc (.cells #[.int .i64 0, .int .i64 0, .int .i64 0] 27) = z32 at *
            generalize z31.heap.size = g5 at *
            refine flow_one (F := BN D n0) (fun _ _ _ => BN.trans) (fun _ => BN.refl _ _ _) 18 (by kernel_rfl) (by decide) ?_
            simp only [pick, List.getD_cons_zero, List.getD_cons_succ]
            go_wp2_with (refine wpList_store_row rfl 27 (.tmp 7) (.tmp 39) rfl g5 #[.int .i64 (v0e - v1e), .int .i64 v2e, .int .i64 ve] rfl rfl 27 _ HA.out (Edg.info ⟨v0e - v1e, v2e, ve⟩) rfl (by simp [Value.oneCell']) ?_)
            refine pieceEnd_normal ⟨BN.row _ _ hg5, ?_⟩
            have HA5 := Lib.hid (setRow_heap z32 g5 _ #[.int .i64 (v0e - v1e), .int .i64 v2e, .int .i64 ve] _ _ HA.out)
            have HGO : Hid (g0 ≠ g5) := Lib.hid (by omega)
            have HOW : Hid (GOwn (z32.setRow g5 #[.int .i64 (v0e - v1e), .int .i64 v2e, .int .i64 ve]) P G v0) := Lib.hid (by
             obtain ⟨e, gv, he, h1, h2⟩ := HS.out.2.1
             exact ⟨e, gv, he, own_keepL h1 fun q hq => setRow_other z32 g5 q #[.int .i64 (v0e - v1e), .int .i64 v2e, .int .i64 ve] (HOB.out e gv he q (.inl hq) hg5), own_keepL h2 fun q hq => setRow_other z32 g5 q #[.int .i64 (v0e - v1e), .int .i64 v2e, .int .i64 ve] (HOB.out e gv he q (.inr hq) hg5)⟩)
            have HBS : Hid (Below w.heap.size z32 (z32.setRow g5 #[.int .i64 (v0e - v1e), .int .i64 v2e, .int .i64 ve])) := Lib.hid (below_setRow (Below.refl _ _) (by have := HS.out.2.2.1.size; have h8 := HWG.out; omega) #[.int .i64 (v0e - v1e), .int .i64 v2e, .int .i64 ve])
            refine flow_done (by kernel_rfl) ?_
            go_wp2_with fail
            go_meet
            exact ⟨g5, ⟨v0e - v1e, v2e, ve⟩, rfl, Lib.hid ⟨(by obtain ⟨kd, hk⟩ := HS.out.1; exact ⟨kd, hk.below (below_setRow (Below.refl _ _) (Nat.le_refl g5) #[.int .i64 (v0e - v1e), .int .i64 v2e, .int .i64 ve]) (by omega)⟩), HOW.out, HS.out.2.2.1.trans HBS.out, (setRow_other z32 g5 g0 #[.int .i64 (v0e - v1e), .int .i64 v2e, .int .i64 ve] HGO.out).trans HS.out.2.2.2, HA5.out, by omega⟩⟩
           ·
            skip
            go_wp2_with fail
            have hb := one_new z30 (.cells #[.int .i64 0, .int .i64 0, .int .i64 0] 27)
            refine pieceEnd_normal ⟨BN.later hb HN.out, ?_⟩
            have HA : Hid ((z30.alloc (.cells #[.int .i64 0, .int .i64 0, .int .i64 0] 27)).heap[z30.heap.size]? = some (.cells #[.int .i64 0, .int .i64 0, .int .i64 0] 27 (0, 0))) := Lib.hid (heap_alloc_new _ _)
            have hg5 : n0 ≤ z30.heap.size := HN.out
            replace HL : Hid ((z30.alloc (.cells #[.int .i64 0, .int .i64 0, .int .i64 0] 27)).heap[gs]? = some (.cells #[.int .i64 1, .int .i64 3, .int .i64 0, .int .i64 4] 3 (0, 0))) := Lib.hid ((hb.block gs (Array.getElem?_eq_some_iff.1 HL.out).1).trans HL.out)
            replace HS : Hid ((∃ kd, DiceAt (z30.alloc (.cells #[.int .i64 0, .int .i64 0, .int .i64 0] 27)) w.heap.size D t kd) ∧ GOwn (z30.alloc (.cells #[.int .i64 0, .int .i64 0, .int .i64 0] 27)) P G v0 ∧ Below w.heap.size w (z30.alloc (.cells #[.int .i64 0, .int .i64 0, .int .i64 0] 27)) ∧ (z30.alloc (.cells #[.int .i64 0, .int .i64 0, .int .i64 0] 27)).heap[g0]? = some (.cells #[.int .i64 G.sz, .slice A n c, .slice B m k] 25 (0, 0))) := Lib.hid ⟨(by obtain ⟨kd, hk⟩ := HS.out.1; exact ⟨kd, hk.later hb⟩), HS.out.2.1.later hb, HS.out.2.2.1.trans (hb.mono HS.out.2.2.1.size), (hb.block g0 (Array.getElem?_eq_some_iff.1 HS.out.2.2.2).1).trans HS.out.2.2.2⟩
            replace HN := Lib.hid (Nat.le_trans HN.out hb.size)
            clear hb
            generalize z30.alloc (.cells #[.int .i64 0, .int .i64 0, .int .i64 0] 27) = z33 at *
            generalize z30.heap.size = g5 at *
            refine flow_one (F := BN D n0) (fun _ _ _ => BN.trans) (fun _ => BN.refl _ _ _) 15 (by kernel_rfl) (by decide) ?_
            simp only [pick, List.getD_cons_zero, List.getD_cons_succ]
            go_wp2_with fail
            refine (of_g w.heap.size D t (some ⟨gs, 0, none⟩) 4 4 [1, 3, 0, 4] z33 HS.out.1 (row4 HL.out) (fun ad e => by injection e with e; subst e; show gs ≠ D; omega) (by decide) (by decide)).mono ?_
            rintro e z34 ⟨ve, rfl, hve1, hg⟩
            clear hve1
            have HF : Hid (BN D n0 z33 z34) := Lib.hid (BN.but hg.2 HN.out)
            replace HN := Lib.hid (Nat.le_trans HN.out hg.2.size)
            replace HA : Hid (z34.heap[g5]? = some (.cells #[.int .i64 0, .int .i64 0, .int .i64 0] 27 (0, 0))) := Lib.hid ((hg.2.block g5 (Array.getElem?_eq_some_iff.1 HA.out).1 (by omega)).trans HA.out)
            replace HL : Hid (z34.heap[gs]? = some (.cells #[.int .i64 1, .int .i64 3, .int .i64 0, .int .i64 4] 3 (0, 0))) := Lib.hid ((hg.2.block gs (Array.getElem?_eq_some_iff.1 HL.out).1 (by omega)).trans HL.out)
            replace HS : Hid ((∃ kd, DiceAt z34 w.heap.size D t kd) ∧ GOwn z34 P G v0 ∧ Below w.heap.size w z34 ∧ z34.heap[g0]? = some (.cells #[.int .i64 G.sz, .slice A n c, .slice B m k] 25 (0, 0))) := Lib.hid ⟨hg.1, HS.out.2.1.but hg.2 HDP.out, HS.out.2.2.1.trans (hg.2.below (by have := HDD.out; omega) HS.out.2.2.1.size), (hg.2.block g0 (Array.getElem?_eq_some_iff.1 HS.out.2.2.2).1 (by omega)).trans HS.out.2.2.2⟩
            clear hg
            go_wp2_with fail
            refine pieceEnd_normal ⟨HF.out, ?_⟩
            clear HF
            refine flow_val (F := BN D n0) (fun _ => BN.refl _ _ _) (by kernel_rfl) 16 (by kernel_rfl) ?_
            simp only [pick, List.getD_cons_zero, List.getD_cons_succ]
            repeat (go_big_quiet_step (fail))
            refine wpQuiet_nil ?_
            refine flow_one (F := BN D n0) (fun _ _ _ => BN.trans) (fun _ => BN.refl _ _ _) 18 (by kernel_rfl) (by decide) ?_
            simp only [pick, List.getD_cons_zero, List.getD_cons_succ]
            go_wp2_with (refine wpList_store_row rfl 27 (.tmp 7) (.tmp 39) rfl g5 #[.int .i64 (v0e - v1e), .int .i64 v2e, .int .i64 ve] rfl rfl 27 _ HA.out (Edg.info ⟨v0e - v1e, v2e, ve⟩) rfl (by simp [Value.oneCell']) ?_)
            refine pieceEnd_normal ⟨BN.row _ _ hg5, ?_⟩
            have HA5 := Lib.hid (setRow_heap z34 g5 _ #[.int .i64 (v0e - v1e), .int .i64 v2e, .int .i64 ve] _ _ HA.out)
            have HGO : Hid (g0 ≠ g5) := Lib.hid (by omega)
            have HOW : Hid (GOwn (z34.setRow g5 #[.int .i64 (v0e - v1e), .int .i64 v2e, .int .i64 ve]) P G v0) := Lib.hid (by
             obtain ⟨e, gv, he, h1, h2⟩ := HS.out.2.1
             exact ⟨e, gv, he, own_keepL h1 fun q hq => setRow_other z34 g5 q #[.int .i64 (v0e - v1e), .int .i64 v2e, .int .i64 ve] (HOB.out e gv he q (.inl hq) hg5), own_keepL h2 fun q hq => setRow_other z34 g5 q #[.int .i64 (v0e - v1e), .int .i64 v2e, .int .i64 ve] (HOB.out e gv he q (.inr hq) hg5)⟩)
            have HBS : Hid (Below w.heap.size z34 (z34.setRow g5 #[.int .i64 (v0e - v1e), .int .i64 v2e, .int .i64 ve])) := Lib.hid (below_setRow (Below.refl _ _) (by have := HS.out.2.2.1.size; have h8 := HWG.out; omega) #[.int .i64 (v0e - v1e), .int .i64 v2e, .int .i64 ve])
            refine flow_done (by kernel_rfl) ?_
            go_wp2_with fail
            go_meet
            exact ⟨g5, ⟨v0e - v1e, v2e, ve⟩, rfl, Lib.hid ⟨(by obtain ⟨kd, hk⟩ := HS.out.1; exact ⟨kd, hk.below (below_setRow (Below.refl _ _) (Nat.le_refl g5) #[.int .i64 (v0e - v1e), .int .i64 v2e, .int .i64 ve]) (by omega)⟩), HOW.out, HS.out.2.2.1.trans HBS.out, (setRow_other z34 g5 g0 #[.int .i64 (v0e - v1e), .int .i64 v2e, .int .i64 ve] HGO.out).trans HS.out.2.2.2, HA5.out, by omega⟩⟩
          ·
           skip
           go_wp2_with fail
           have hb := one_new z29 (.cells #[.int .i64 0, .int .i64 0, .int .i64 0] 27)
           refine pieceEnd_normal ⟨BN.later hb HN.out, ?_⟩
           have HA : Hid ((z29.alloc (.cells #[.int .i64 0, .int .i64 0, .int .i64 0] 27)).heap[z29.heap.size]? = some (.cells #[.int .i64 0, .int .i64 0, .int .i64 0] 27 (0, 0))) := Lib.hid (heap_alloc_new _ _)
           have hg5 : n0 ≤ z29.heap.size := HN.out
           replace HL : Hid ((z29.alloc (.cells #[.int .i64 0, .int .i64 0, .int .i64 0] 27)).heap[gs]? = some (.cells #[.int .i64 1, .int .i64 3, .int .i64 0, .int .i64 4] 3 (0, 0))) := Lib.hid ((hb.block gs (Array.getElem?_eq_some_iff.1 HL.out).1).trans HL.out)
           replace HS : Hid ((∃ kd, DiceAt (z29.alloc (.cells #[.int .i64 0, .int .i64 0, .int .i64 0] 27)) w.heap.size D t kd) ∧ GOwn (z29.alloc (.cells #[.int .i64 0, .int .i64 0, .int .i64 0] 27)) P G v0 ∧ Below w.heap.size w (z29.alloc (.cells #[.int .i64 0, .int .i64 0, .int .i64 0] 27)) ∧ (z29.alloc (.cells #[.int .i64 0, .int .i64 0, .int .i64 0] 27)).heap[g0]? = some (.cells #[.int .i64 G.sz, .slice A n c, .slice B m k] 25 (0, 0))) := Lib.hid ⟨(by obtain ⟨kd, hk⟩ := HS.out.1; exact ⟨kd, hk.later hb⟩), HS.out.2.1.later hb, HS.out.2.2.1.trans (hb.mono HS.out.2.2.1.size), (hb.block g0 (Array.getElem?_eq_some_iff.1 HS.out.2.2.2).1).trans HS.out.2.2.2⟩
           replace HN := Lib.hid (Nat.le_trans HN.out hb.size)
           clear hb
           generalize z29.alloc (.cells #[.int .i64 0, .int .i64 0, .int .i64 0] 27) = z35 at *
           generalize z29.heap.size = g5 at *
           refine flow_one (F := BN D n0) (fun _ _ _ => BN.trans) (fun _ => BN.refl _ _ _) 12 (by kernel_rfl) (by decide) ?_
           simp only [pick, List.getD_cons_zero, List.getD_cons_succ]
           go_wp2_with fail
           refine (next_g w.heap.size D t (G.sz + 1) z35 HS.out.1 (by omega) (by omega)).mono ?_
           rintro e z36 ⟨v2e, rfl, hv2e0, hv2e1, hg⟩
           have HF : Hid (BN D n0 z35 z36) := Lib.hid (BN.but hg.2 HN.out)
           replace HN := Lib.hid (Nat.le_trans HN.out hg.2.size)
           replace HA : Hid (z36.heap[g5]? = some (.cells #[.int .i64 0, .int .i64 0, .int .i64 0] 27 (0, 0))) := Lib.hid ((hg.2.block g5 (Array.getElem?_eq_some_iff.1 HA.out).1 (by omega)).trans HA.out)
           replace HL : Hid (z36.heap[gs]? = some (.cells #[.int .i64 1, .int .i64 3, .int .i64 0, .int .i64 4] 3 (0, 0))) := Lib.hid ((hg.2.block gs (Array.getElem?_eq_some_iff.1 HL.out).1 (by omega)).trans HL.out)
           replace HS : Hid ((∃ kd, DiceAt z36 w.heap.size D t kd) ∧ GOwn z36 P G v0 ∧ Below w.heap.size w z36 ∧ z36.heap[g0]? = some (.cells #[.int .i64 G.sz, .slice A n c, .slice B m k] 25 (0, 0))) := Lib.hid ⟨hg.1, HS.out.2.1.but hg.2 HDP.out, HS.out.2.2.1.trans (hg.2.below (by have := HDD.out; omega) HS.out.2.2.1.size), (hg.2.block g0 (Array.getElem?_eq_some_iff.1 HS.out.2.2.2).1 (by omega)).trans HS.out.2.2.2⟩
           clear hg
           go_wp2_with fail
           refine pieceEnd_normal ⟨HF.out, ?_⟩
           clear HF
           refine flow_one (F := BN D n0) (fun _ _ _ => BN.trans) (fun _ => BN.refl _ _ _) 15 (by kernel_rfl) (by decide) ?_
           simp only [pick, List.getD_cons_zero, List.getD_cons_succ]
           go_wp2_with fail
           refine (of_g w.heap.size D t (some ⟨gs, 0, none⟩) 4 4 [1, 3, 0, 4] z36 HS.out.1 (row4 HL.out) (fun ad e => by injection e with e; subst e; show gs ≠ D; omega) (by decide) (by decide)).mono ?_
           rintro e z37 ⟨ve, rfl, hve1, hg⟩
           clear hve1
           have HF : Hid (BN D n0 z36 z37) := Lib.hid (BN.but hg.2 HN.out)
           replace HN := Lib.hid (Nat.le_trans HN.out hg.2.size)
           replace HA : Hid (z37.heap[g5]? = some (.cells #[.int .i64 0, .int .i64 0, .int .i64 0] 27 (0, 0))) := Lib.hid ((hg.2.block g5 (Array.getElem?_eq_some_iff.1 HA.out).1 (by omega)).trans HA.out)
           replace HL : Hid (z37.heap[gs]? = some (.cells #[.int .i64 1, .int .i64 3, .int .i64 0, .int .i64 4] 3 (0, 0))) := Lib.hid ((hg.2.block gs (Array.getElem?_eq_some_iff.1 HL.out).1 (by omega)).trans HL.out)
           replace HS : Hid ((∃ kd, DiceAt z37 w.heap.size D t kd) ∧ GOwn z37 P G v0 ∧ Below w.heap.size w z37 ∧ z37.heap[g0]? = some (.cells #[.int .i64 G.sz, .slice A n c, .slice B m k] 25 (0, 0))) := Lib.hid ⟨hg.1, HS.out.2.1.but hg.2 HDP.out, HS.out.2.2.1.trans (hg.2.below (by have := HDD.out; omega) HS.out.2.2.1.size), (hg.2.block g0 (Array.getElem?_eq_some_iff.1 HS.out.2.2.2).1 (by omega)).trans HS.out.2.2.2⟩
           clear hg
           go_wp2_with fail
           refine pieceEnd_normal ⟨HF.out, ?_⟩
           clear HF
           refine flow_val (F := BN D n0) (fun _ => BN.refl _ _ _) (by kernel_rfl) 16 (by kernel_rfl) ?_
           simp only [pick, List.getD_cons_zero, List.getD_cons_succ]
           repeat (go_big_quiet_step (fail))
           refine wpQuiet_nil ?_
           refine flow_one (F := BN D n0) (fun _ _ _ => BN.trans) (fun _ => BN.refl _ _ _) 18 (by kernel_rfl) (by decide) ?_
           simp only [pick, List.getD_cons_zero, List.getD_cons_succ]
           go_wp2_with (refine wpList_store_row rfl 27 (.tmp 7) (.tmp 39) rfl g5 #[.int .i64 (v0e - v1e), .int .i64 v2e, .int .i64 ve] rfl rfl 27 _ HA.out (Edg.info ⟨v0e - v1e, v2e, ve⟩) rfl (by simp [Value.oneCell']) ?_)
           refine pieceEnd_normal ⟨BN.row _ _ hg5, ?_⟩
           have HA5 := Lib.hid (setRow_heap z37 g5 _ #[.int .i64 (v0e - v1e), .int .i64 v2e, .int .i64 ve] _ _ HA.out)
           have HGO : Hid (g0 ≠ g5) := Lib.hid (by omega)
           have HOW : Hid (GOwn (z37.setRow g5 #[.int .i64 (v0e - v1e), .int .i64 v2e, .int .i64 ve]) P G v0) := Lib.hid (by
            obtain ⟨e, gv, he, h1, h2⟩ := HS.out.2.1
            exact ⟨e, gv, he, own_keepL h1 fun q hq => setRow_other z37 g5 q #[.int .i64 (v0e - v1e), .int .i64 v2e, .int .i64 ve] (HOB.out e gv he q (.inl hq) hg5), own_keepL h2 fun q hq => setRow_other z37 g5 q #[.int .i64 (v0e - v1e), .int .i64 v2e, .int .i64 ve] (HOB.out e gv he q (.inr hq) hg5)⟩)
           have HBS : Hid (Below w.heap.size z37 (z37.setRow g5 #[.int .i64 (v0e - v1e), .int .i64 v2e, .int .i64 ve])) := Lib.hid (below_setRow (Below.refl _ _) (by have := HS.out.2.2.1.size; have h8 := HWG.out; omega) #[.int .i64 (v0e - v1e), .int .i64 v2e, .int .i64 ve])
           refine flow_done (by kernel_rfl) ?_
           go_wp2_with fail
           go_meet
           exact ⟨g5, ⟨v0e - v1e, v2e, ve⟩, rfl, Lib.hid ⟨(by obtain ⟨kd, hk⟩ := HS.out.1; exact ⟨kd, hk.below (below_setRow (Below.refl _ _) (Nat.le_refl g5) #[.int .i64 (v0e - v1e), .int .i64 v2e, .int .i64 ve]) (by omega)⟩), HOW.out, HS.out.2.2.1.trans HBS.out, (setRow_other z37 g5 g0 #[.int .i64 (v0e - v1e), .int .i64 v2e, .int .i64 ve] HGO.out).trans HS.out.2.2.2, HA5.out, by omega⟩⟩
        ·
         as_aux_lemma =>
          go_wp2_with fail
          have hb := one_new z28 (.cells #[.int .i64 0, .int .i64 0, .int .i64 0] 27)
          refine pieceEnd_normal ⟨BN.later hb HN.out, ?_⟩
          have HA : Hid ((z28.alloc (.cells #[.int .i64 0, .int .i64 0, .int .i64 0] 27)).heap[z28.heap.size]? = some (.cells #[.int .i64 0, .int .i64 0, .int .i64 0] 27 (0, 0))) := Lib.hid (heap_alloc_new _ _)
          have hg5 : n0 ≤ z28.heap.size := HN.out
          replace HL : Hid ((z28.alloc (.cells #[.int .i64 0, .int .i64 0, .int .i64 0] 27)).heap[gs]? = some (.cells #[.int .i64 1, .int .i64 3, .int .i64 0, .int .i64 4] 3 (0, 0))) := Lib.hid ((hb.block gs (Array.getElem?_eq_some_iff.1 HL.out).1).trans HL.out)
          replace HS : Hid ((∃ kd, DiceAt (z28.alloc (.cells #[.int .i64 0, .int .i64 0, .int .i64 0] 27)) w.heap.size D t kd) ∧ GOwn (z28.alloc (.cells #[.int .i64 0, .int .i64 0, .int .i64 0] 27)) P G v0 ∧ Below w.heap.size w (z28.alloc (.cells #[.int .i64 0, .int .i64 0, .int .i64 0] 27)) ∧ (z28.alloc (.cells #[.int .i64 0, .int .i64 0, .int .i64 0] 27)).heap[g0]? = some (.cells #[.int .i64 G.sz, .slice A n c, .slice B m k] 25 (0, 0))) := Lib.hid ⟨(by obtain ⟨kd, hk⟩ := HS.out.1; exact ⟨kd, hk.later hb⟩), HS.out.2.1.later hb, HS.out.2.2.1.trans (hb.mono HS.out.2.2.1.size), (hb.block g0 (Array.getElem?_eq_some_iff.1 HS.out.2.2.2).1).trans HS.out.2.2.2⟩
          replace HN := Lib.hid (Nat.le_trans HN.out hb.size)
          clear hb
          generalize z28.alloc (.cells #[.int .i64 0, .int .i64 0, .int .i64 0] 27) = z38 at *
          generalize z28.heap.size = g5 at *
          refine flow_one (F := BN D n0) (fun _ _ _ => BN.trans) (fun _ => BN.refl _ _ _) 6 (by kernel_rfl) (by decide) ?_
          simp only [pick, List.getD_cons_zero, List.getD_cons_succ]
          go_wp2_with fail
          refine (next_g w.heap.size D t 2 z38 HS.out.1 (by omega) (by omega)).mono ?_
          rintro e z39 ⟨v1e, rfl, hv1e0, hv1e1, hg⟩
          have HF : Hid (BN D n0 z38 z39) := Lib.hid (BN.but hg.2 HN.out)
          replace HN := Lib.hid (Nat.le_trans HN.out hg.2.size)
          replace HA : Hid (z39.heap[g5]? = some (.cells #[.int .i64 0, .int .i64 0, .int .i64 0] 27 (0, 0))) := Lib.hid ((hg.2.block g5 (Array.getElem?_eq_some_iff.1 HA.out).1 (by omega)).trans HA.out)
          replace HL : Hid (z39.heap[gs]? = some (.cells #[.int .i64 1, .int .i64 3, .int .i64 0, .int .i64 4] 3 (0, 0))) := Lib.hid ((hg.2.block gs (Array.getElem?_eq_some_iff.1 HL.out).1 (by omega)).trans HL.out)
          replace HS : Hid ((∃ kd, DiceAt z39 w.heap.size D t kd) ∧ GOwn z39 P G v0 ∧ Below w.heap.size w z39 ∧ z39.heap[g0]? = some (.cells #[.int .i64 G.sz, .slice A n c, .slice B m k] 25 (0, 0))) := Lib.hid ⟨hg.1, HS.out.2.1.but hg.2 HDP.out, HS.out.2.2.1.trans (hg.2.below (by have := HDD.out; omega) HS.out.2.2.1.size), (hg.2.block g0 (Array.getElem?_eq_some_iff.1 HS.out.2.2.2).1 (by omega)).trans HS.out.2.2.2⟩
          clear hg
          go_wp2_with fail
          refine pieceEnd_normal ⟨HF.out, ?_⟩
          clear HF
          refine flow_reads (F := BN D n0) (fun _ => BN.refl _ _ _) (by kernel_rfl) [7] (fuel := 4) (by kernel_rfl) ?_
          simp only [List.map_cons, List.map_nil, pick, List.getD_cons_zero, List.getD_cons_succ]
          repeat (go_big_quiet_step (fail))
          refine wpQuiet_nil ?_
          refine flow_one (F := BN D n0) (fun _ _ _ => BN.trans) (fun _ => BN.refl _ _ _) 12 (by kernel_rfl) (by decide) ?_
          simp only [pick, List.getD_cons_zero, List.getD_cons_succ]
          go_wp2_with fail
          refine (next_g w.heap.size D t (G.sz + 1) z39 HS.out.1 (by omega) (by omega)).mono ?_
          rintro e z40 ⟨v2e, rfl, hv2e0, hv2e1, hg⟩
          have HF : Hid (BN D n0 z39 z40) := Lib.hid (BN.but hg.2 HN.out)
          replace HN := Lib.hid (Nat.le_trans HN.out hg.2.size)
          replace HA : Hid (z40.heap[g5]? = some (.cells #[.int .i64 0, .int .i64 0, .int .i64 0] 27 (0, 0))) := Lib.hid ((hg.2.block g5 (Array.getElem?_eq_some_iff.1 HA.out).1 (by omega)).trans HA.out)
          replace HL : Hid (z40.heap[gs]? = some (.cells #[.int .i64 1, .int .i64 3, .int .i64 0, .int .i64 4] 3 (0, 0))) := Lib.hid ((hg.2.block gs (Array.getElem?_eq_some_iff.1 HL.out).1 (by omega)).trans HL.out)
          replace HS : Hid ((∃ kd, DiceAt z40 w.heap.size D t kd) ∧ GOwn z40 P G v0 ∧ Below w.heap.size w z40 ∧ z40.heap[g0]? = some (.cells #[.int .i64 G.sz, .slice A n c, .slice B m k] 25 (0, 0))) := Lib.hid ⟨hg.1, HS.out.2.1.but hg.2 HDP.out, HS.out.2.2.1.trans (hg.2.below (by have := HDD.out; omega) HS.out.2.2.1.size), (hg.2.block g0 (Array.getElem?_eq_some_iff.1 HS.out.2.2.2).1 (by omega)).trans HS.out.2.2.2⟩
          clear hg
          go_wp2_with fail
          refine pieceEnd_normal ⟨HF.out, ?_⟩
          clear HF
          refine flow_one (F := BN D n0) (fun _ _ _ => BN.trans) (fun _ => BN.refl _ _ _) 15 (by kernel_rfl) (by decide) ?_
          simp only [pick, List.getD_cons_zero, List.getD_cons_succ]
          go_wp2_with fail
          refine (of_g w.heap.size D t (some ⟨gs, 0, none⟩) 4 4 [1, 3, 0, 4] z40 HS.out.1 (row4 HL.out) (fun ad e => by injection e with e; subst e; show gs ≠ D; omega) (by decide) (by decide)).mono ?_
          rintro e z41 ⟨ve, rfl, hve1, hg⟩
          clear hve1
          have HF : Hid (BN D n0 z40 z41) := Lib.hid (BN.but hg.2 HN.out)
          replace HN := Lib.hid (Nat.le_trans HN.out hg.2.size)
          replace HA : Hid (z41.heap[g5]? = some (.cells #[.int .i64 0, .int .i64 0, .int .i64 0] 27 (0, 0))) := Lib.hid ((hg.2.block g5 (Array.getElem?_eq_some_iff.1 HA.out).1 (by omega)).trans HA.out)
          replace HL : Hid (z41.heap[gs]? = some (.cells #[.int .i64 1, .int .i64 3, .int .i64 0, .int .i64 4] 3 (0, 0))) := Lib.hid ((hg.2.block gs (Array.getElem?_eq_some_iff.1 HL.out).1 (by omega)).trans HL.out)
          replace HS : Hid ((∃ kd, DiceAt z41 w.heap.size D t kd) ∧ GOwn z41 P G v0 ∧ Below w.heap.size w z41 ∧ z41.heap[g0]? = some (.cells #[.int .i64 G.sz, .slice A n c, .slice B m k] 25 (0, 0))) := Lib.hid ⟨hg.1, HS.out.2.1.but hg.2 HDP.out, HS.out.2.2.1.trans (hg.2.below (by have := HDD.out; omega) HS.out.2.2.1.size), (hg.2.block g0 (Array.getElem?_eq_some_iff.1 HS.out.2.2.2).1 (by omega)).trans HS.out.2.2.2⟩
          clear hg
          go_wp2_with fail
          refine pieceEnd_normal ⟨HF.out, ?_⟩
          clear HF
          refine flow_val (F := BN D n0) (fun _ => BN.refl _ _ _) (by kernel_rfl) 16 (by kernel_rfl) ?_
          simp only [pick, List.getD_cons_zero, List.getD_cons_succ]
          repeat (go_big_quiet_step (fail))
          refine wpQuiet_nil ?_
          refine flow_one (F := BN D n0) (fun _ _ _ => BN.trans) (fun _ => BN.refl _ _ _) 18 (by kernel_rfl) (by decide) ?_
          simp only [pick, List.getD_cons_zero, List.getD_cons_succ]
          go_wp2_with (refine wpList_store_row rfl 27 (.tmp 7) (.tmp 39) rfl g5 #[.int .i64 (v0e - v1e), .int .i64 v2e, .int .i64 ve] rfl rfl 27 _ HA.out (Edg.info ⟨v0e - v1e, v2e, ve⟩) rfl (by simp [Value.oneCell']) ?_)
          refine pieceEnd_normal ⟨BN.row _ _ hg5, ?_⟩
          have HA5 := Lib.hid (setRow_heap z41 g5 _ #[.int .i64 (v0e - v1e), .int .i64 v2e, .int .i64 ve] _ _ HA.out)
          have HGO : Hid (g0 ≠ g5) := Lib.hid (by omega)
          have HOW : Hid (GOwn (z41.setRow g5 #[.int .i64 (v0e - v1e), .int .i64 v2e, .int .i64 ve]) P G v0) := Lib.hid (by
           obtain ⟨e, gv, he, h1, h2⟩ := HS.out.2.1
           exact ⟨e, gv, he, own_keepL h1 fun q hq => setRow_other z41 g5 q #[.int .i64 (v0e - v1e), .int .i64 v2e, .int .i64 ve] (HOB.out e gv he q (.inl hq) hg5), own_keepL h2 fun q hq => setRow_other z41 g5 q #[.int .i64 (v0e - v1e), .int .i64 v2e, .int .i64 ve] (HOB.out e gv he q (.inr hq) hg5)⟩)
          have HBS : Hid (Below w.heap.size z41 (z41.setRow g5 #[.int .i64 (v0e - v1e), .int .i64 v2e, .int .i64 ve])) := Lib.hid (below_setRow (Below.refl _ _) (by have := HS.out.2.2.1.size; have h8 := HWG.out; omega) #[.int .i64 (v0e - v1e), .int .i64 v2e, .int .i64 ve])
          refine flow_done (by kernel_rfl) ?_
          go_wp2_with fail
          go_meet
          exact ⟨g5, ⟨v0e - v1e, v2e, ve⟩, rfl, Lib.hid ⟨(by obtain ⟨kd, hk⟩ := HS.out.1; exact ⟨kd, hk.below (below_setRow (Below.refl _ _) (Nat.le_refl g5) #[.int .i64 (v0e - v1e), .int .i64 v2e, .int .i64 ve]) (by omega)⟩), HOW.out, HS.out.2.2.1.trans HBS.out, (setRow_other z41 g5 g0 #[.int .i64 (v0e - v1e), .int .i64 v2e, .int .i64 ve] HGO.out).trans HS.out.2.2.2, HA5.out, by omega⟩⟩
      ·
       as_aux_lemma =>
        go_wp2_with fail
        have hb := one_new z1 (.cells #[.int .i64 0, .int .i64 0, .int .i64 0] 27)
        refine pieceEnd_normal ⟨BN.later hb HN.out, ?_⟩
        have HA : Hid ((z1.alloc (.cells #[.int .i64 0, .int .i64 0, .int .i64 0] 27)).heap[z1.heap.size]? = some (.cells #[.int .i64 0, .int .i64 0, .int .i64 0] 27 (0, 0))) := Lib.hid (heap_alloc_new _ _)
        have hg5 : n0 ≤ z1.heap.size := HN.out
        replace HS : Hid ((∃ kd, DiceAt (z1.alloc (.cells #[.int .i64 0, .int .i64 0, .int .i64 0] 27)) w.heap.size D t kd) ∧ GOwn (z1.alloc (.cells #[.int .i64 0, .int .i64 0, .int .i64 0] 27)) P G v0 ∧ Below w.heap.size w (z1.alloc (.cells #[.int .i64 0, .int .i64 0, .int .i64 0] 27)) ∧ (z1.alloc (.cells #[.int .i64 0, .int .i64 0, .int .i64 0] 27)).heap[g0]? = some (.cells #[.int .i64 G.sz, .slice A n c, .slice B m k] 25 (0, 0))) := Lib.hid ⟨(by obtain ⟨kd, hk⟩ := HS.out.1; exact ⟨kd, hk.later hb⟩), HS.out.2.1.later hb, HS.out.2.2.1.trans (hb.mono HS.out.2.2.1.size), (hb.block g0 (Array.getElem?_eq_some_iff.1 HS.out.2.2.2).1).trans HS.out.2.2.2⟩
        replace HN := Lib.hid (Nat.le_trans HN.out hb.size)
        clear hb
        generalize z1.alloc (.cells #[.int .i64 0, .int .i64 0, .int .i64 0] 27) = z42 at *
        generalize z1.heap.size = g5 at *
        refine flow_two (F := BN D n0) (fun _ _ _ => BN.trans) (fun _ => BN.refl _ _ _) 6 14 (by kernel_rfl) (by decide) (by decide) ?_ ?_ <;> simp only [pick, List.getD_cons_zero, List.getD_cons_succ]
        ·
         as_aux_lemma =>
          go_wp2_with fail
          refine (next_g w.heap.size D t 2 z42 HS.out.1 (by omega) (by omega)).mono ?_
          rintro e z43 ⟨v1e, rfl, hv1e0, hv1e1, hg⟩
          have HF : Hid (BN D n0 z42 z43) := Lib.hid (BN.but hg.2 HN.out)
          replace HN := Lib.hid (Nat.le_trans HN.out hg.2.size)
          replace HA : Hid (z43.heap[g5]? = some (.cells #[.int .i64 0, .int .i64 0, .int .i64 0] 27 (0, 0))) := Lib.hid ((hg.2.block g5 (Array.getElem?_eq_some_iff.1 HA.out).1 (by omega)).trans HA.out)
          replace HS : Hid ((∃ kd, DiceAt z43 w.heap.size D t kd) ∧ GOwn z43 P G v0 ∧ Below w.heap.size w z43 ∧ z43.heap[g0]? = some (.cells #[.int .i64 G.sz, .slice A n c, .slice B m k] 25 (0, 0))) := Lib.hid ⟨hg.1, HS.out.2.1.but hg.2 HDP.out, HS.out.2.2.1.trans (hg.2.below (by have := HDD.out; omega) HS.out.2.2.1.size), (hg.2.block g0 (Array.getElem?_eq_some_iff.1 HS.out.2.2.2).1 (by omega)).trans HS.out.2.2.2⟩
          clear hg
          go_wp2_with fail
          refine pieceEnd_normal ⟨HF.out, ?_⟩
          clear HF
          refine flow_reads (F := BN D n0) (fun _ => BN.refl _ _ _) (by kernel_rfl) [7] (fuel := 5) (by kernel_rfl) ?_
          simp only [List.map_cons, List.map_nil, pick, List.getD_cons_zero, List.getD_cons_succ]
          repeat (go_big_quiet_step (fail))
          refine wpQuiet_nil ?_
          refine flow_two (F := BN D n0) (fun _ _ _ => BN.trans) (fun _ => BN.refl _ _ _) 12 14 (by kernel_rfl) (by decide) (by decide) ?_ ?_ <;> simp only [pick, List.getD_cons_zero, List.getD_cons_succ]
          ·
           skip
           go_wp2_with fail
           refine (next_g w.heap.size D t (G.sz + 1) z43 HS.out.1 (by omega) (by omega)).mono ?_
           rintro e z44 ⟨v2e, rfl, hv2e0, hv2e1, hg⟩
           have HF : Hid (BN D n0 z43 z44) := Lib.hid (BN.but hg.2 HN.out)
           replace HN := Lib.hid (Nat.le_trans HN.out hg.2.size)
           replace HA : Hid (z44.heap[g5]? = some (.cells #[.int .i64 0, .int .i64 0, .int .i64 0] 27 (0, 0))) := Lib.hid ((hg.2.block g5 (Array.getElem?_eq_some_iff.1 HA.out).1 (by omega)).trans HA.out)
           replace HS : Hid ((∃ kd, DiceAt z44 w.heap.size D t kd) ∧ GOwn z44 P G v0 ∧ Below w.heap.size w z44 ∧ z44.heap[g0]? = some (.cells #[.int .i64 G.sz, .slice A n c, .slice B m k] 25 (0, 0))) := Lib.hid ⟨hg.1, HS.out.2.1.but hg.2 HDP.out, HS.out.2.2.1.trans (hg.2.below (by have := HDD.out; omega) HS.out.2.2.1.size), (hg.2.block g0 (Array.getElem?_eq_some_iff.1 HS.out.2.2.2).1 (by omega)).trans HS.out.2.2.2⟩
           clear hg
           go_wp2_with fail
           refine pieceEnd_normal ⟨HF.out, ?_⟩
           clear HF
           refine flow_one (F := BN D n0) (fun _ _ _ => BN.trans) (fun _ => BN.refl _ _ _) 14 (by kernel_rfl) (by decide) ?_
           simp only [pick, List.getD_cons_zero, List.getD_cons_succ]
           go_wp2_with fail
           have hb := one_new z44 (.cells #[.int .i64 1, .int .i64 3, .int .i64 0, .int .i64 4] 3)
           refine pieceEnd_normal ⟨BN.later hb HN.out, ?_⟩
           have HL : Hid ((z44.alloc (.cells #[.int .i64 1, .int .i64 3, .int .i64 0, .int .i64 4] 3)).heap[z44.heap.size]? = some (.cells #[.int .i64 1, .int .i64 3, .int .i64 0, .int .i64 4] 3 (0, 0))) := Lib.hid (heap_alloc_new _ _)
           have hgs : n0 ≤ z44.heap.size := HN.out
           replace HA : Hid ((z44.alloc (.cells #[.int .i64 1, .int .i64 3, .int .i64 0, .int .i64 4] 3)).heap[g5]? = some (.cells #[.int .i64 0, .int .i64 0, .int .i64 0] 27 (0, 0))) := Lib.hid ((hb.block g5 (Array.getElem?_eq_some_iff.1 HA.out).1).trans HA.out)
           replace HS : Hid ((∃ kd, DiceAt (z44.alloc (.cells #[.int .i64 1, .int .i64 3, .int .i64 0, .int .i64 4] 3)) w.heap.size D t kd) ∧ GOwn (z44.alloc (.cells #[.int .i64 1, .int .i64 3, .int .i64 0, .int .i64 4] 3)) P G v0 ∧ Below w.heap.size w (z44.alloc (.cells #[.int .i64 1, .int .i64 3, .int .i64 0, .int .i64 4] 3)) ∧ (z44.alloc (.cells #[.int .i64 1, .int .i64 3, .int .i64 0, .int .i64 4] 3)).heap[g0]? = some (.cells #[.int .i64 G.sz, .slice A n c, .slice B m k] 25 (0, 0))) := Lib.hid ⟨(by obtain ⟨kd, hk⟩ := HS.out.1; exact ⟨kd, hk.later hb⟩), HS.out.2.1.later hb, HS.out.2.2.1.trans (hb.mono HS.out.2.2.1.size), (hb.block g0 (Array.getElem?_eq_some_iff.1 HS.out.2.2.2).1).trans HS.out.2.2.2⟩
           replace HN := Lib.hid (Nat.le_trans HN.out hb.size)
           clear hb
           generalize z44.alloc (.cells #[.int .i64 1, .int .i64 3, .int .i64 0, .int .i64 4] 3) = z45 at *
           generalize z44.heap.size = gs at *
           refine flow_one (F := BN D n0) (fun _ _ _ => BN.trans) (fun _ => BN.refl _ _ _) 15 (by kernel_rfl) (by decide) ?_
           simp only [pick, List.getD_cons_zero, List.getD_cons_succ]
           go_wp2_with fail
           refine (of_g w.heap.size D t (some ⟨gs, 0, none⟩) 4 4 [1, 3, 0, 4] z45 HS.out.1 (row4 HL.out) (fun ad e => by injection e with e; subst e; show gs ≠ D; omega) (by decide) (by decide)).mono ?_
           rintro e z46 ⟨ve, rfl, hve1, hg⟩
           clear hve1
           have HF : Hid (BN D n0 z45 z46) := Lib.hid (BN.but hg.2 HN.out)
           replace HN := Lib.hid (Nat.le_trans HN.out hg.2.size)
           replace HA : Hid (z46.heap[g5]? = some (.cells #[.int .i64 0, .int .i64 0, .int .i64 0] 27 (0, 0))) := Lib.hid ((hg.2.block g5 (Array.getElem?_eq_some_iff.1 HA.out).1 (by omega)).trans HA.out)
           replace HL : Hid (z46.heap[gs]? = some (.cells #[.int .i64 1, .int .i64 3, .int .i64 0, .int .i64 4] 3 (0, 0))) := Lib.hid ((hg.2.block gs (Array.getElem?_eq_some_iff.1 HL.out).1 (by omega)).trans HL.out)
           replace HS : Hid ((∃ kd, DiceAt z46 w.heap.size D t kd) ∧ GOwn z46 P G v0 ∧ Below w.heap.size w z46 ∧ z46.heap[g0]? = some (.cells #[.int .i64 G.sz, .slice A n c, .slice B m k] 25 (0, 0))) := Lib.hid ⟨hg.1, HS.out.2.1.but hg.2 HDP.out, HS.out.2.2.1.trans (hg.2.below (by have := HDD.out; omega) HS.out.2.2.1.size), (hg.2.block g0 (Array.getElem?_eq_some_iff.1 HS.out.2.2.2).1 (by omega)).trans HS.out.2.2.2⟩
           clear hg
           go_wp2_with fail
           refine pieceEnd_normal ⟨HF.out, ?_⟩
           clear HF
           refine flow_val (F := BN D n0) (fun _ => BN.refl _ _ _) (by kernel_rfl) 16 (by kernel_rfl) ?_
           simp only [pick, List.getD_cons_zero, List.getD_cons_succ]
           repeat (go_big_quiet_step (fail))
           refine wpQuiet_nil ?_
           refine flow_one (F := BN D n0) (fun _ _ _ => BN.trans) (fun _ => BN.refl _ _ _) 18 (by kernel_rfl) (by decide) ?_
           simp only [pick, List.getD_cons_zero, List.getD_cons_succ]
           go_wp2_with (refine wpList_store_row rfl 27 (.tmp 7) (.tmp 39) rfl g5 #[.int .i64 (v0e - v1e), .int .i64 v2e, .int .i64 ve] rfl rfl 27 _ HA.out (Edg.info ⟨v0e - v1e, v2e, ve⟩) rfl (by simp [Value.oneCell']) ?_)
           refine pieceEnd_normal ⟨BN.row _ _ hg5, ?_⟩
           have HA5 := Lib.hid (setRow_heap z46 g5 _ #[.int .i64 (v0e - v1e), .int .i64 v2e, .int .i64 ve] _ _ HA.out)
           have HGO : Hid (g0 ≠ g5) := Lib.hid (by omega)
           have HOW : Hid (GOwn (z46.setRow g5 #[.int .i64 (v0e - v1e), .int .i64 v2e, .int .i64 ve]) P G v0) := Lib.hid (by
            obtain ⟨e, gv, he, h1, h2⟩ := HS.out.2.1
            exact ⟨e, gv, he, own_keepL h1 fun q hq => setRow_other z46 g5 q #[.int .i64 (v0e - v1e), .int .i64 v2e, .int .i64 ve] (HOB.out e gv he q (.inl hq) hg5), own_keepL h2 fun q hq => setRow_other z46 g5 q #[.int .i64 (v0e - v1e), .int .i64 v2e, .int .i64 ve] (HOB.out e gv he q (.inr hq) hg5)⟩)
           have HBS : Hid (Below w.heap.size z46 (z46.setRow g5 #[.int .i64 (v0e - v1e), .int .i64 v2e, .int .i64 ve])) := Lib.hid (below_setRow (Below.refl _ _) (by have := HS.out.2.2.1.size; have h8 := HWG.out; omega) #[.int .i64 (v0e - v1e), .int .i64 v2e, .int .i64 ve])
           refine flow_done (by kernel_rfl) ?_
           go_wp2_with fail
           go_meet
           exact ⟨g5, ⟨v0e - v1e, v2e, ve⟩, rfl, Lib.hid ⟨(by obtain ⟨kd, hk⟩ := HS.out.1; exact ⟨kd, hk.below (below_setRow (Below.refl _ _) (Nat.le_refl g5) #[.int .i64 (v0e - v1e), .int .i64 v2e, .int .i64 ve]) (by omega)⟩), HOW.out, HS.out.2.2.1.trans HBS.out, (setRow_other z46 g5 g0 #[.int .i64 (v0e - v1e), .int .i64 v2e, .int .i64 ve] HGO.out).trans HS.out.2.2.2, HA5.out, by omega⟩⟩
          ·
           skip
           go_wp2_with fail
           have hb := one_new z43 (.cells #[.int .i64 1, .int .i64 3, .int .i64 0, .int .i64 4] 3)
           refine pieceEnd_normal ⟨BN.later hb HN.out, ?_⟩
           have HL : Hid ((z43.alloc (.cells #[.int .i64 1, .int .i64 3, .int .i64 0, .int .i64 4] 3)).heap[z43.heap.size]? = some (.cells #[.int .i64 1, .int .i64 3, .int .i64 0, .int .i64 4] 3 (0, 0))) := Lib.hid (heap_alloc_new _ _)
           have hgs : n0 ≤ z43.heap.size := HN.out
           replace HA : Hid ((z43.alloc (.cells #[.int .i64 1, .int .i64 3, .int .i64 0, .int .i64 4] 3)).heap[g5]? = some (.cells #[.int .i64 0, .int .i64 0, .int .i64 0] 27 (0, 0))) := Lib.hid ((hb.block g5 (Array.getElem?_eq_some_iff.1 HA.out).1).trans HA.out)
           replace HS : Hid ((∃ kd, DiceAt (z43.alloc (.cells #[.int .i64 1, .int .i64 3, .int .i64 0, .int .i64 4] 3)) w.heap.size D t kd) ∧ GOwn (z43.alloc (.cells #[.int .i64 1, .int .i64 3, .int .i64 0, .int .i64 4] 3)) P G v0 ∧ Below w.heap.size w (z43.alloc (.cells #[.int .i64 1, .int .i64 3, .int .i64 0, .int .i64 4] 3)) ∧ (z43.alloc (.cells #[.int .i64 1, .int .i64 3, .int .i64 0, .int .i64 4] 3)).heap[g0]? = some (.cells #[.int .i64 G.sz, .slice A n c, .slice B m k] 25 (0, 0))) := Lib.hid ⟨(by obtain ⟨kd, hk⟩ := HS.out.1; exact ⟨kd, hk.later hb⟩), HS.out.2.1.later hb, HS.out.2.2.1.trans (hb.mono HS.out.2.2.1.size), (hb.block g0 (Array.getElem?_eq_some_iff.1 HS.out.2.2.2).1).trans HS.out.2.2.2⟩
           replace HN := Lib.hid (Nat.le_trans HN.out hb.size)
           clear hb
           generalize z43.alloc (.cells #[.int .i64 1, .int .i64 3, .int .i64 0, .int .i64 4] 3) = z47 at *
           generalize z43.heap.size = gs at *
           refine flow_one (F := BN D n0) (fun _ _ _ => BN.trans) (fun _ => BN.refl _ _ _) 12 (by kernel_rfl) (by decide) ?_
           simp only [pick, List.getD_cons_zero, List.getD_cons_succ]
           go_wp2_with fail
           refine (next_g w.heap.size D t (G.sz + 1) z47 HS.out.1 (by omega) (by omega)).mono ?_
           rintro e z48 ⟨v2e, rfl, hv2e0, hv2e1, hg⟩
           have HF : Hid (BN D n0 z47 z48) := Lib.hid (BN.but hg.2 HN.out)
           replace HN := Lib.hid (Nat.le_trans HN.out hg.2.size)
           replace HA : Hid (z48.heap[g5]? = some (.cells #[.int .i64 0, .int .i64 0, .int .i64 0] 27 (0, 0))) := Lib.hid ((hg.2.block g5 (Array.getElem?_eq_some_iff.1 HA.out).1 (by omega)).trans HA.out)
           replace HL : Hid (z48.heap[gs]? = some (.cells #[.int .i64 1, .int .i64 3, .int .i64 0, .int .i64 4] 3 (0, 0))) := Lib.hid ((hg.2.block gs (Array.getElem?_eq_some_iff.1 HL.out).1 (by omega)).trans HL.out)
           replace HS : Hid ((∃ kd, DiceAt z48 w.heap.size D t kd) ∧ GOwn z48 P G v0 ∧ Below w.heap.size w z48 ∧ z48.heap[g0]? = some (.cells #[.int .i64 G.sz, .slice A n c, .slice B m k] 25 (0, 0))) := Lib.hid ⟨hg.1, HS.out.2.1.but hg.2 HDP.out, HS.out.2.2.1.trans (hg.2.below (by have := HDD.out; omega) HS.out.2.2.1.size), (hg.2.block g0 (Array.getElem?_eq_some_iff.1 HS.out.2.2.2).1 (by omega)).trans HS.out.2.2.2⟩
           clear hg
           go_wp2_with fail
           refine pieceEnd_normal ⟨HF.out, ?_⟩
           clear HF
           refine flow_one (F := BN D n0) (fun _ _ _ => BN.trans) (fun _ => BN.refl _ _ _) 15 (by kernel_rfl) (by decide) ?_
           simp only [pick, List.getD_cons_zero, List.getD_cons_succ]
           go_wp2_with fail
           refine (of_g w.heap.size D t (some ⟨gs, 0, none⟩) 4 4 [1, 3, 0, 4] z48 HS.out.1 (row4 HL.out) (fun ad e => by injection e with e; subst e; show gs ≠ D; omega) (by decide) (by decide)).mono ?_
           rintro e z49 ⟨ve, rfl, hve1, hg⟩
           clear hve1
           have HF : Hid (BN D n0 z48 z49) := Lib.hid (BN.but hg.2 HN.out)
           replace HN := Lib.hid (Nat.le_trans HN.out hg.2.size)
           replace HA : Hid (z49.heap[g5]? = some (.cells #[.int .i64 0, .int .i64 0, .int .i64 0] 27 (0, 0))) := Lib.hid ((hg.2.block g5 (Array.getElem?_eq_some_iff.1 HA.out).1 (by omega)).trans HA.out)
           replace HL : Hid (z49.heap[gs]? = some (.cells #[.int .i64 1, .int .i64 3, .int .i64 0, .int .i64 4] 3 (0, 0))) := Lib.hid ((hg.2.block gs (Array.getElem?_eq_some_iff.1 HL.out).1 (by omega)).trans HL.out)
           replace HS : Hid ((∃ kd, DiceAt z49 w.heap.size D t kd) ∧ GOwn z49 P G v0 ∧ Below w.heap.size w z49 ∧ z49.heap[g0]? = some (.cells #[.int .i64 G.sz, .slice A n c, .slice B m k] 25 (0, 0))) := Lib.hid ⟨hg.1, HS.out.2.1.but hg.2 HDP.out, HS.out.2.2.1.trans (hg.2.below (by have := HDD.out; omega) HS.out.2.2.1.size), (hg.2.block g0 (Array.getElem?_eq_some_iff.1 HS.out.2.2.2).1 (by omega)).trans HS.out.2.2.2⟩
           clear hg
           go_wp2_with fail
           refine pieceEnd_normal ⟨HF.out, ?_⟩
           clear HF
           refine flow_val (F := BN D n0) (fun _ => BN.refl _ _ _) (by kernel_rfl) 16 (by kernel_rfl) ?_
           simp only [pick, List.getD_cons_zero, List.getD_cons_succ]
           repeat (go_big_quiet_step (fail))
           refine wpQuiet_nil ?_
           refine flow_one (F := BN D n0) (fun _ _ _ => BN.trans) (fun _ => BN.refl _ _ _) 18 (by kernel_rfl) (by decide) ?_
           simp only [pick, List.getD_cons_zero, List.getD_cons_succ]
           go_wp2_with (refine wpList_store_row rfl 27 (.tmp 7) (.tmp 39) rfl g5 #[.int .i64 (v0e - v1e), .int .i64 v2e, .int .i64 ve] rfl rfl 27 _ HA.out (Edg.info ⟨v0e - v1e, v2e, ve⟩) rfl (by simp [Value.oneCell']) ?_)
           refine pieceEnd_normal ⟨BN.row _ _ hg5, ?_⟩
           have HA5 := Lib.hid (setRow_heap z49 g5 _ #[.int .i64 (v0e - v1e), .int .i64 v2e, .int .i64 ve] _ _ HA.out)
           have HGO : Hid (g0 ≠ g5) := Lib.hid (by omega)
           have HOW : Hid (GOwn (z49.setRow g5 #[.int .i64 (v0e - v1e), .int .i64 v2e, .int .i64 ve]) P G v0) := Lib.hid (by
            obtain ⟨e, gv, he, h1, h2⟩ := HS.out.2.1
            exact ⟨e, gv, he, own_keepL h1 fun q hq => setRow_other z49 g5 q #[.int .i64 (v0e - v1e), .int .i64 v2e, .int .i64 ve] (HOB.out e gv he q (.inl hq) hg5), own_keepL h2 fun q hq => setRow_other z49 g5 q #[.int .i64 (v0e - v1e), .int .i64 v2e, .int .i64 ve] (HOB.out e gv he q (.inr hq) hg5)⟩)
           have HBS : Hid (Below w.heap.size z49 (z49.setRow g5 #[.int .i64 (v0e - v1e), .int .i64 v2e, .int .i64 ve])) := Lib.hid (below_setRow (Below.refl _ _) (by have := HS.out.2.2.1.size; have h8 := HWG.out; omega) #[.int .i64 (v0e - v1e), .int .i64 v2e, .int .i64 ve])
           refine flow_done (by kernel_rfl) ?_
           go_wp2_with fail
           go_meet
           exact ⟨g5, ⟨v0e - v1e, v2e, ve⟩, rfl, Lib.hid ⟨(by obtain ⟨kd, hk⟩ := HS.out.1; exact ⟨kd, hk.below (below_setRow (Below.refl _ _) (Nat.le_refl g5) #[.int .i64 (v0e - v1e), .int .i64 v2e, .int .i64 ve]) (by omega)⟩), HOW.out, HS.out.2.2.1.trans HBS.out, (setRow_other z49 g5 g0 #[.int .i64 (v0e - v1e), .int .i64 v2e, .int .i64 ve] HGO.out).trans HS.out.2.2.2, HA5.out, by omega⟩⟩
        ·
         as_aux_lemma =>
          go_wp2_with fail
          have hb := one_new z42 (.cells #[.int .i64 1, .int .i64 3, .int .i64 0, .int .i64 4] 3)
          refine pieceEnd_normal ⟨BN.later hb HN.out, ?_⟩
          have HL : Hid ((z42.alloc (.cells #[.int .i64 1, .int .i64 3, .int .i64 0, .int .i64 4] 3)).heap[z42.heap.size]? = some (.cells #[.int .i64 1, .int .i64 3, .int .i64 0, .int .i64 4] 3 (0, 0))) := Lib.hid (heap_alloc_new _ _)
          have hgs : n0 ≤ z42.heap.size := HN.out
          replace HA : Hid ((z42.alloc (.cells #[.int .i64 1, .int .i64 3, .int .i64 0, .int .i64 4] 3)).heap[g5]? = some (.cells #[.int .i64 0, .int .i64 0, .int .i64 0] 27 (0, 0))) := Lib.hid ((hb.block g5 (Array.getElem?_eq_some_iff.1 HA.out).1).trans HA.out)
          replace HS : Hid ((∃ kd, DiceAt (z42.alloc (.cells #[.int .i64 1, .int .i64 3, .int .i64 0, .int .i64 4] 3)) w.heap.size D t kd) ∧ GOwn (z42.alloc (.cells #[.int .i64 1, .int .i64 3, .int .i64 0, .int .i64 4] 3)) P G v0 ∧ Below w.heap.size w (z42.alloc (.cells #[.int .i64 1, .int .i64 3, .int .i64 0, .int .i64 4] 3)) ∧ (z42.alloc (.cells #[.int .i64 1, .int .i64 3, .int .i64 0, .int .i64 4] 3)).heap[g0]? = some (.cells #[.int .i64 G.sz, .slice A n c, .slice B m k] 25 (0, 0))) := Lib.hid ⟨(by obtain ⟨kd, hk⟩ := HS.out.1; exact ⟨kd, hk.later hb⟩), HS.out.2.1.later hb, HS.out.2.2.1.trans (hb.mono HS.out.2.2.1.size), (hb.block g0 (Array.getElem?_eq_some_iff.1 HS.out.2.2.2).1).trans HS.out.2.2.2⟩
          replace HN := Lib.hid (Nat.le_trans HN.out hb.size)
          clear hb
          generalize z42.alloc (.cells #[.int .i64 1, .int .i64 3, .int .i64 0, .int .i64 4] 3) = z50 at *
          generalize z42.heap.size = gs at *
          refine flow_one (F := BN D n0) (fun _ _ _ => BN.trans) (fun _ => BN.refl _ _ _) 6 (by kernel_rfl) (by decide) ?_
          simp only [pick, List.getD_cons_zero, List.getD_cons_succ]
          go_wp2_with fail
          refine (next_g w.heap.size D t 2 z50 HS.out.1 (by omega) (by omega)).mono ?_
          rintro e z51 ⟨v1e, rfl, hv1e0, hv1e1, hg⟩
          have HF : Hid (BN D n0 z50 z51) := Lib.hid (BN.but hg.2 HN.out)
          replace HN := Lib.hid (Nat.le_trans HN.out hg.2.size)
          replace HA : Hid (z51.heap[g5]? = some (.cells #[.int .i64 0, .int .i64 0, .int .i64 0] 27 (0, 0))) := Lib.hid ((hg.2.block g5 (Array.getElem?_eq_some_iff.1 HA.out).1 (by omega)).trans HA.out)
          replace HL : Hid (z51.heap[gs]? = some (.cells #[.int .i64 1, .int .i64 3, .int .i64 0, .int .i64 4] 3 (0, 0))) := Lib.hid ((hg.2.block gs (Array.getElem?_eq_some_iff.1 HL.out).1 (by omega)).trans HL.out)
          replace HS : Hid ((∃ kd, DiceAt z51 w.heap.size D t kd) ∧ GOwn z51 P G v0 ∧ Below w.heap.size w z51 ∧ z51.heap[g0]? = some (.cells #[.int .i64 G.sz, .slice A n c, .slice B m k] 25 (0, 0))) := Lib.hid ⟨hg.1, HS.out.2.1.but hg.2 HDP.out, HS.out.2.2.1.trans (hg.2.below (by have := HDD.out; omega) HS.out.2.2.1.size), (hg.2.block g0 (Array.getElem?_eq_some_iff.1 HS.out.2.2.2).1 (by omega)).trans HS.out.2.2.2⟩
          clear hg
          go_wp2_with fail
          refine pieceEnd_normal ⟨HF.out, ?_⟩
          clear HF
          refine flow_reads (F := BN D n0) (fun _ => BN.refl _ _ _) (by kernel_rfl) [7] (fuel := 4) (by kernel_rfl) ?_
          simp only [List.map_cons, List.map_nil, pick, List.getD_cons_zero, List.getD_cons_succ]
          repeat (go_big_quiet_step (fail))
          refine wpQuiet_nil ?_
          refine flow_one (F := BN D n0) (fun _ _ _ => BN.trans) (fun _ => BN.refl _ _ _) 12 (by kernel_rfl) (by decide) ?_
          simp only [pick, List.getD_cons_zero, List.getD_cons_succ]
          go_wp2_with fail
          refine (next_g w.heap.size D t (G.sz + 1) z51 HS.out.1 (by omega) (by omega)).mono ?_
          rintro e z52 ⟨v2e, rfl, hv2e0, hv2e1, hg⟩
          have HF : Hid (BN D n0 z51 z52) := Lib.hid (BN.but hg.2 HN.out)
          replace HN := Lib.hid (Nat.le_trans HN.out hg.2.size)
          replace HA : Hid (z52.heap[g5]? = some (.cells #[.int .i64 0, .int .i64 0, .int .i64 0] 27 (0, 0))) := Lib.hid ((hg.2.block g5 (Array.getElem?_eq_some_iff.1 HA.out).1 (by omega)).trans HA.out)
          replace HL : Hid (z52.heap[gs]? = some (.cells #[.int .i64 1, .int .i64 3, .int .i64 0, .int .i64 4] 3 (0, 0))) := Lib.hid ((hg.2.block gs (Array.getElem?_eq_some_iff.1 HL.out).1 (by omega)).trans HL.out)
          replace HS : Hid ((∃ kd, DiceAt z52 w.heap.size D t kd) ∧ GOwn z52 P G v0 ∧ Below w.heap.size w z52 ∧ z52.heap[g0]? = some (.cells #[.int .i64 G.sz, .slice A n c, .slice B m k] 25 (0, 0))) := Lib.hid ⟨hg.1, HS.out.2.1.but hg.2 HDP.out, HS.out.2.2.1.trans (hg.2.below (by have := HDD.out; omega) HS.out.2.2.1.size), (hg.2.block g0 (Array.getElem?_eq_some_iff.1 HS.out.2.2.2).1 (by omega)).trans HS.out.2.2.2⟩
          clear hg
          go_wp2_with fail
          refine pieceEnd_normal ⟨HF.out, ?_⟩
          clear HF
          refine flow_one (F := BN D n0) (fun _ _ _ => BN.trans) (fun _ => BN.refl _ _ _) 15 (by kernel_rfl) (by decide) ?_
          simp only [pick, List.getD_cons_zero, List.getD_cons_succ]
          go_wp2_with fail
          refine (of_g w.heap.size D t (some ⟨gs, 0, none⟩) 4 4 [1, 3, 0, 4] z52 HS.out.1 (row4 HL.out) (fun ad e => by injection e with e; subst e; show gs ≠ D; omega) (by decide) (by decide)).mono ?_
          rintro e z53 ⟨ve, rfl, hve1, hg⟩
          clear hve1
          have HF : Hid (BN D n0 z52 z53) := Lib.hid (BN.but hg.2 HN.out)
          replace HN := Lib.hid (Nat.le_trans HN.out hg.2.size)
          replace HA : Hid (z53.heap[g5]? = some (.cells #[.int .i64 0, .int .i64 0, .int .i64 0] 27 (0, 0))) := Lib.hid ((hg.2.block g5 (Array.getElem?_eq_some_iff.1 HA.out).1 (by omega)).trans HA.out)
          replace HL : Hid (z53.heap[gs]? = some (.cells #[.int .i64 1, .int .i64 3, .int .i64 0, .int .i64 4] 3 (0, 0))) := Lib.hid ((hg.2.block gs (Array.getElem?_eq_some_iff.1 HL.out).1 (by omega)).trans HL.out)
          replace HS : Hid ((∃ kd, DiceAt z53 w.heap.size D t kd) ∧ GOwn z53 P G v0 ∧ Below w.heap.size w z53 ∧ z53.heap[g0]? = some (.cells #[.int .i64 G.sz, .slice A n c, .slice B m k] 25 (0, 0))) := Lib.hid ⟨hg.1, HS.out.2.1.but hg.2 HDP.out, HS.out.2.2.1.trans (hg.2.below (by have := HDD.out; omega) HS.out.2.2.1.size), (hg.2.block g0 (Array.getElem?_eq_some_iff.1 HS.out.2.2.2).1 (by omega)).trans HS.out.2.2.2⟩
          clear hg
          go_wp2_with fail
          refine pieceEnd_normal ⟨HF.out, ?_⟩
          clear HF
          refine flow_val (F := BN D n0) (fun _ => BN.refl _ _ _) (by kernel_rfl) 16 (by kernel_rfl) ?_
          simp only [pick, List.getD_cons_zero, List.getD_cons_succ]
          repeat (go_big_quiet_step (fail))
          refine wpQuiet_nil ?_
          refine flow_one (F := BN D n0) (fun _ _ _ => BN.trans) (fun _ => BN.refl _ _ _) 18 (by kernel_rfl) (by decide) ?_
          simp only [pick, List.getD_cons_zero, List.getD_cons_succ]
          go_wp2_with (refine wpList_store_row rfl 27 (.tmp 7) (.tmp 39) rfl g5 #[.int .i64 (v0e - v1e), .int .i64 v2e, .int .i64 ve] rfl rfl 27 _ HA.out (Edg.info ⟨v0e - v1e, v2e, ve⟩) rfl (by simp [Value.oneCell']) ?_)
          refine pieceEnd_normal ⟨BN.row _ _ hg5, ?_⟩
          have HA5 := Lib.hid (setRow_heap z53 g5 _ #[.int .i64 (v0e - v1e), .int .i64 v2e, .int .i64 ve] _ _ HA.out)
          have HGO : Hid (g0 ≠ g5) := Lib.hid (by omega)
          have HOW : Hid (GOwn (z53.setRow g5 #[.int .i64 (v0e - v1e), .int .i64 v2e, .int .i64 ve]) P G v0) := Lib.hid (by
           obtain ⟨e, gv, he, h1, h2⟩ := HS.out.2.1
           exact ⟨e, gv, he, own_keepL h1 fun q hq => setRow_other z53 g5 q #[.int .i64 (v0e - v1e), .int .i64 v2e, .int .i64 ve] (HOB.out e gv he q (.inl hq) hg5), own_keepL h2 fun q hq => setRow_other z53 g5 q #[.int .i64 (v0e - v1e), .int .i64 v2e, .int .i64 ve] (HOB.out e gv he q (.inr hq) hg5)⟩)
          have HBS : Hid (Below w.heap.size z53 (z53.setRow g5 #[.int .i64 (v0e - v1e), .int .i64 v2e, .int .i64 ve])) := Lib.hid (below_setRow (Below.refl _ _) (by have := HS.out.2.2.1.size; have h8 := HWG.out; omega) #[.int .i64 (v0e - v1e), .int .i64 v2e, .int .i64 ve])
          refine flow_done (by kernel_rfl) ?_
          go_wp2_with fail
          go_meet
          exact ⟨g5, ⟨v0e - v1e, v2e, ve⟩, rfl, Lib.hid ⟨(by obtain ⟨kd, hk⟩ := HS.out.1; exact ⟨kd, hk.below (below_setRow (Below.refl _ _) (Nat.le_refl g5) #[.int .i64 (v0e - v1e), .int .i64 v2e, .int .i64 ve]) (by omega)⟩), HOW.out, HS.out.2.2.1.trans HBS.out, (setRow_other z53 g5 g0 #[.int .i64 (v0e - v1e), .int .i64 v2e, .int .i64 ve] HGO.out).trans HS.out.2.2.2, HA5.out, by omega⟩⟩
    ·
     as_aux_lemma =>
      go_wp2_with fail
      have hb := one_new z0 (.cells #[.int .i64 1, .int .i64 3, .int .i64 0, .int .i64 4] 3)
      refine pieceEnd_normal ⟨BN.later hb HN.out, ?_⟩
      have HL : Hid ((z0.alloc (.cells #[.int .i64 1, .int .i64 3, .int .i64 0, .int .i64 4] 3)).heap[z0.heap.size]? = some (.cells #[.int .i64 1, .int .i64 3, .int .i64 0, .int .i64 4] 3 (0, 0))) := Lib.hid (heap_alloc_new _ _)
      have hgs : n0 ≤ z0.heap.size := HN.out
      replace HS : Hid ((∃ kd, DiceAt (z0.alloc (.cells #[.int .i64 1, .int .i64 3, .int .i64 0, .int .i64 4] 3)) w.heap.size D t kd) ∧ GOwn (z0.alloc (.cells #[.int .i64 1, .int .i64 3, .int .i64 0, .int .i64 4] 3)) P G v0 ∧ Below w.heap.size w (z0.alloc (.cells #[.int .i64 1, .int .i64 3, .int .i64 0, .int .i64 4] 3)) ∧ (z0.alloc (.cells #[.int .i64 1, .int .i64 3, .int .i64 0, .int .i64 4] 3)).heap[g0]? = some (.cells #[.int .i64 G.sz, .slice A n c, .slice B m k] 25 (0, 0))) := Lib.hid ⟨(by obtain ⟨kd, hk⟩ := HS.out.1; exact ⟨kd, hk.later hb⟩), HS.out.2.1.later hb, HS.out.2.2.1.trans (hb.mono HS.out.2.2.1.size), (hb.block g0 (Array.getElem?_eq_some_iff.1 HS.out.2.2.2).1).trans HS.out.2.2.2⟩
      replace HN := Lib.hid (Nat.le_trans HN.out hb.size)
      clear hb
      generalize z0.alloc (.cells #[.int .i64 1, .int .i64 3, .int .i64 0, .int .i64 4] 3) = z54 at *
      generalize z0.heap.size = gs at *
      refine flow_two (F := BN D n0) (fun _ _ _ => BN.trans) (fun _ => BN.refl _ _ _) 4 17 (by kernel_rfl) (by decide) (by decide) ?_ ?_ <;> simp only [pick, List.getD_cons_zero, List.getD_cons_succ]
      ·
       as_aux_lemma =>
        go_wp2_with fail
        refine (next_g w.heap.size D t (G.sz + 1) z54 HS.out.1 (by omega) (by omega)).mono ?_
        rintro e z55 ⟨v0e, rfl, hv0e0, hv0e1, hg⟩
        have HF : Hid (BN D n0 z54 z55) := Lib.hid (BN.but hg.2 HN.out)
        replace HN := Lib.hid (Nat.le_trans HN.out hg.2.size)
        replace HL : Hid (z55.heap[gs]? = some (.cells #[.int .i64 1, .int .i64 3, .int .i64 0, .int .i64 4] 3 (0, 0))) := Lib.hid ((hg.2.block gs (Array.getElem?_eq_some_iff.1 HL.out).1 (by omega)).trans HL.out)
        replace HS : Hid ((∃ kd, DiceAt z55 w.heap.size D t kd) ∧ GOwn z55 P G v0 ∧ Below w.heap.size w z55 ∧ z55.heap[g0]? = some (.cells #[.int .i64 G.sz, .slice A n c, .slice B m k] 25 (0, 0))) := Lib.hid ⟨hg.1, HS.out.2.1.but hg.2 HDP.out, HS.out.2.2.1.trans (hg.2.below (by have := HDD.out; omega) HS.out.2.2.1.size), (hg.2.block g0 (Array.getElem?_eq_some_iff.1 HS.out.2.2.2).1 (by omega)).trans HS.out.2.2.2⟩
        clear hg
        go_wp2_with fail
        refine pieceEnd_normal ⟨HF.out, ?_⟩
        clear HF
        refine flow_two (F := BN D n0) (fun _ _ _ => BN.trans) (fun _ => BN.refl _ _ _) 6 17 (by kernel_rfl) (by decide) (by decide) ?_ ?_ <;> simp only [pick, List.getD_cons_zero, List.getD_cons_succ]
        ·
         as_aux_lemma =>
          go_wp2_with fail
          refine (next_g w.heap.size D t 2 z55 HS.out.1 (by omega) (by omega)).mono ?_
          rintro e z56 ⟨v1e, rfl, hv1e0, hv1e1, hg⟩
          have HF : Hid (BN D n0 z55 z56) := Lib.hid (BN.but hg.2 HN.out)
          replace HN := Lib.hid (Nat.le_trans HN.out hg.2.size)
          replace HL : Hid (z56.heap[gs]? = some (.cells #[.int .i64 1, .int .i64 3, .int .i64 0, .int .i64 4] 3 (0, 0))) := Lib.hid ((hg.2.block gs (Array.getElem?_eq_some_iff.1 HL.out).1 (by omega)).trans HL.out)
          replace HS : Hid ((∃ kd, DiceAt z56 w.heap.size D t kd) ∧ GOwn z56 P G v0 ∧ Below w.heap.size w z56 ∧ z56.heap[g0]? = some (.cells #[.int .i64 G.sz, .slice A n c, .slice B m k] 25 (0, 0))) := Lib.hid ⟨hg.1, HS.out.2.1.but hg.2 HDP.out, HS.out.2.2.1.trans (hg.2.below (by have := HDD.out; omega) HS.out.2.2.1.size), (hg.2.block g0 (Array.getElem?_eq_some_iff.1 HS.out.2.2.2).1 (by omega)).trans HS.out.2.2.2⟩
          clear hg
          go_wp2_with fail
          refine pieceEnd_normal ⟨HF.out, ?_⟩
          clear HF
          refine flow_reads (F := BN D n0) (fun _ => BN.refl _ _ _) (by kernel_rfl) [7] (fuel := 5) (by kernel_rfl) ?_
          simp only [List.map_cons, List.map_nil, pick, List.getD_cons_zero, List.getD_cons_succ]
          repeat (go_big_quiet_step (fail))
          refine wpQuiet_nil ?_
          refine flow_two (F := BN D n0) (fun _ _ _ => BN.trans) (fun _ => BN.refl _ _ _) 12 17 (by kernel_rfl) (by decide) (by decide) ?_ ?_ <;> simp only [pick, List.getD_cons_zero, List.getD_cons_succ]
          ·
           skip
           go_wp2_with fail
           refine (next_g w.heap.size D t (G.sz + 1) z56 HS.out.1 (by omega) (by omega)).mono ?_
           rintro e z57 ⟨v2e, rfl, hv2e0, hv2e1, hg⟩
           have HF : Hid (BN D n0 z56 z57) := Lib.hid (BN.but hg.2 HN.out)
           replace HN := Lib.hid (Nat.le_trans HN.out hg.2.size)
           replace HL : Hid (z57.heap[gs]? = some (.cells #[.int .i64 1, .int .i64 3, .int .i64 0, .int .i64 4] 3 (0, 0))) := Lib.hid ((hg.2.block gs (Array.getElem?_eq_some_iff.1 HL.out).1 (by omega)).trans HL.out)
           replace HS : Hid ((∃ kd, DiceAt z57 w.heap.size D t kd) ∧ GOwn z57 P G v0 ∧ Below w.heap.size w z57 ∧ z57.heap[g0]? = some (.cells #[.int .i64 G.sz, .slice A n c, .slice B m k] 25 (0, 0))) := Lib.hid ⟨hg.1, HS.out.2.1.but hg.2 HDP.out, HS.out.2.2.1.trans (hg.2.below (by have := HDD.out; omega) HS.out.2.2.1.size), (hg.2.block g0 (Array.getElem?_eq_some_iff.1 HS.out.2.2.2).1 (by omega)).trans HS.out.2.2.2⟩
           clear hg
           go_wp2_with fail
           refine pieceEnd_normal ⟨HF.out, ?_⟩
           clear HF
           refine flow_two (F := BN D n0) (fun _ _ _ => BN.trans) (fun _ => BN.refl _ _ _) 15 17 (by kernel_rfl) (by decide) (by decide) ?_ ?_ <;> simp only [pick, List.getD_cons_zero, List.getD_cons_succ]
           ·
            skip
            go_wp2_with fail
            refine (of_g w.heap.size D t (some ⟨gs, 0, none⟩) 4 4 [1, 3, 0, 4] z57 HS.out.1 (row4 HL.out) (fun ad e => by injection e with e; subst e; show gs ≠ D; omega) (by decide) (by decide)).mono ?_
            rintro e z58 ⟨ve, rfl, hve1, hg⟩
            clear hve1
            have HF : Hid (BN D n0 z57 z58) := Lib.hid (BN.but hg.2 HN.out)
            replace HN := Lib.hid (Nat.le_trans HN.out hg.2.size)
            replace HL : Hid (z58.heap[gs]? = some (.cells #[.int .i64 1, .int .i64 3, .int .i64 0, .int .i64 4] 3 (0, 0))) := Lib.hid ((hg.2.block gs (Array.getElem?_eq_some_iff.1 HL.out).1 (by omega)).trans HL.out)
            replace HS : Hid ((∃ kd, DiceAt z58 w.heap.size D t kd) ∧ GOwn z58 P G v0 ∧ Below w.heap.size w z58 ∧ z58.heap[g0]? = some (.cells #[.int .i64 G.sz, .slice A n c, .slice B m k] 25 (0, 0))) := Lib.hid ⟨hg.1, HS.out.2.1.but hg.2 HDP.out, HS.out.2.2.1.trans (hg.2.below (by have := HDD.out; omega) HS.out.2.2.1.size), (hg.2.block g0 (Array.getElem?_eq_some_iff.1 HS.out.2.2.2).1 (by omega)).trans HS.out.2.2.2⟩
            clear hg
            go_wp2_with fail
            refine pieceEnd_normal ⟨HF.out, ?_⟩
            clear HF
            refine flow_val (F := BN D n0) (fun _ => BN.refl _ _ _) (by kernel_rfl) 16 (by kernel_rfl) ?_
            simp only [pick, List.getD_cons_zero, List.getD_cons_succ]
            repeat (go_big_quiet_step (fail))
            refine wpQuiet_nil ?_
            refine flow_one (F := BN D n0) (fun _ _ _ => BN.trans) (fun _ => BN.refl _ _ _) 17 (by kernel_rfl) (by decide) ?_
            simp only [pick, List.getD_cons_zero, List.getD_cons_succ]
            go_wp2_with fail
            have hb := one_new z58 (.cells #[.int .i64 0, .int .i64 0, .int .i64 0] 27)
            refine pieceEnd_normal ⟨BN.later hb HN.out, ?_⟩
            have HA : Hid ((z58.alloc (.cells #[.int .i64 0, .int .i64 0, .int .i64 0] 27)).heap[z58.heap.size]? = some (.cells #[.int .i64 0, .int .i64 0, .int .i64 0] 27 (0, 0))) := Lib.hid (heap_alloc_new _ _)
            have hg5 : n0 ≤ z58.heap.size := HN.out
            replace HL : Hid ((z58.alloc (.cells #[.int .i64 0, .int .i64 0, .int .i64 0] 27)).heap[gs]? = some (.cells #[.int .i64 1, .int .i64 3, .int .i64 0, .int .i64 4] 3 (0, 0))) := Lib.hid ((hb.block gs (Array.getElem?_eq_some_iff.1 HL.out).1).trans HL.out)
            replace HS : Hid ((∃ kd, DiceAt (z58.alloc (.cells #[.int .i64 0, .int .i64 0, .int .i64 0] 27)) w.heap.size D t kd) ∧ GOwn (z58.alloc (.cells #[.int .i64 0, .int .i64 0, .int .i64 0] 27)) P G v0 ∧ Below w.heap.size w (z58.alloc (.cells #[.int .i64 0, .int .i64 0, .int .i64 0] 27)) ∧ (z58.alloc (.cells #[.int .i64 0, .int .i64 0, .int .i64 0] 27)).heap[g0]? = some (.cells #[.int .i64 G.sz, .slice A n c, .slice B m k] 25 (0, 0))) := Lib.hid ⟨(by obtain ⟨kd, hk⟩ := HS.out.1; exact ⟨kd, hk.later hb⟩), HS.out.2.1.later hb, HS.out.2.2.1.trans (hb.mono HS.out.2.2.1.size), (hb.block g0 (Array.getElem?_eq_some_iff.1 HS.out.2.2.2).1).trans HS.out.2.2.2⟩
            replace HN := Lib.hid (Nat.le_trans HN.out hb.size)
            clear hb
            generalize z58.alloc (.cells #[.int .i64 0, .int .i64 0, .int .i64 0] 27) = z59 at *
            generalize z58.heap.size = g5 at *
            refine flow_one (F := BN D n0) (fun _ _ _ => BN.trans) (fun _ => BN.refl _ _ _) 18 (by kernel_rfl) (by decide) ?_
            simp only [pick, List.getD_cons_zero, List.getD_cons_succ]
            go_wp2_with (refine wpList_store_row rfl 27 (.tmp 7) (.tmp 39) rfl g5 #[.int .i64 (v0e - v1e), .int .i64 v2e, .int .i64 ve] rfl rfl 27 _ HA.out (Edg.info ⟨v0e - v1e, v2e, ve⟩) rfl (by simp [Value.oneCell']) ?_)
            refine pieceEnd_normal ⟨BN.row _ _ hg5, ?_⟩
            have HA5 := Lib.hid (setRow_heap z59 g5 _ #[.int .i64 (v0e - v1e), .int .i64 v2e, .int .i64 ve] _ _ HA.out)
            have HGO : Hid (g0 ≠ g5) := Lib.hid (by omega)
            have HOW : Hid (GOwn (z59.setRow g5 #[.int .i64 (v0e - v1e), .int .i64 v2e, .int .i64 ve]) P G v0) := Lib.hid (by
             obtain ⟨e, gv, he, h1, h2⟩ := HS.out.2.1
             exact ⟨e, gv, he, own_keepL h1 fun q hq => setRow_other z59 g5 q #[.int .i64 (v0e - v1e), .int .i64 v2e, .int .i64 ve] (HOB.out e gv he q (.inl hq) hg5), own_keepL h2 fun q hq => setRow_other z59 g5 q #[.int .i64 (v0e - v1e), .int .i64 v2e, .int .i64 ve] (HOB.out e gv he q (.inr hq) hg5)⟩)
            have HBS : Hid (Below w.heap.size z59 (z59.setRow g5 #[.int .i64 (v0e - v1e), .int .i64 v2e, .int .i64 ve])) := Lib.hid (below_setRow (Below.refl _ _) (by have := HS.out.2.2.1.size; have h8 := HWG.out; omega) #[.int .i64 (v0e - v1e), .int .i64 v2e, .int .i64 ve])
            refine flow_done (by kernel_rfl) ?_
            go_wp2_with fail
            go_meet
            exact ⟨g5, ⟨v0e - v1e, v2e, ve⟩, rfl, Lib.hid ⟨(by obtain ⟨kd, hk⟩ := HS.out.1; exact ⟨kd, hk.below (below_setRow (Below.refl _ _) (Nat.le_refl g5) #[.int .i64 (v0e - v1e), .int .i64 v2e, .int .i64 ve]) (by omega)⟩), HOW.out, HS.out.2.2.1.trans HBS.out, (setRow_other z59 g5 g0 #[.int .i64 (v0e - v1e), .int .i64 v2e, .int .i64 ve] HGO.out).trans HS.out.2.2.2, HA5.out, by omega⟩⟩
           ·
            skip
            go_wp2_with fail
            have hb := one_new z57 (.cells #[.int .i64 0, .int .i64 0, .int .i64 0] 27)
            refine pieceEnd_normal ⟨BN.later hb HN.out, ?_⟩
            have HA : Hid ((z57.alloc (.cells #[.int .i64 0, .int .i64 0, .int .i64 0] 27)).heap[z57.heap.size]? = some (.cells #[.int .i64 0, .int .i64 0, .int .i64 0] 27 (0, 0))) := Lib.hid (heap_alloc_new _ _)
            have hg5 : n0 ≤ z57.heap.size := HN.out
            replace HL : Hid ((z57.alloc (.cells #[.int .i64 0, .int .i64 0, .int .i64 0] 27)).heap[gs]? = some (.cells #[.int .i64 1, .int .i64 3, .int .i64 0, .int .i64 4] 3 (0, 0))) := Lib.hid ((hb.block gs (Array.getElem?_eq_some_iff.1 HL.out).1).trans HL.out)
            replace HS : Hid ((∃ kd, DiceAt (z57.alloc (.cells #[.int .i64 0, .int .i64 0, .int .i64 0] 27)) w.heap.size D t kd) ∧ GOwn (z57.alloc (.cells #[.int .i64 0, .int .i64 0, .int .i64 0] 27)) P G v0 ∧ Below w.heap.size w (z57.alloc (.cells #[.int .i64 0, .int .i64 0, .int .i64 0] 27)) ∧ (z57.alloc (.cells #[.int .i64 0, .int .i64 0, .int .i64 0] 27)).heap[g0]? = some (.cells #[.int .i64 G.sz, .slice A n c, .slice B m k] 25 (0, 0))) := Lib.hid ⟨(by obtain ⟨kd, hk⟩ := HS.out.1; exact ⟨kd, hk.later hb⟩), HS.out.2.1.later hb, HS.out.2.2.1.trans (hb.mono HS.out.2.2.1.size), (hb.block g0 (Array.getElem?_eq_some_iff.1 HS.out.2.2.2).1).trans HS.out.2.2.2⟩
            replace HN := Lib.hid (Nat.le_trans HN.out hb.size)
            clear hb
            generalize z57.alloc (.cells #[.int .i64 0, .int .i64 0, .int .i64 0] 27) = z60 at *
            generalize z57.heap.size = g5 at *
            refine flow_one (F := BN D n0) (fun _ _ _ => BN.trans) (fun _ => BN.refl _ _ _) 15 (by kernel_rfl) (by decide) ?_
            simp only [pick, List.getD_cons_zero, List.getD_cons_succ]
            go_wp2_with fail
            refine (of_g w.heap.size D t (some ⟨gs, 0, none⟩) 4 4 [1, 3, 0, 4] z60 HS.out.1 (row4 HL.out) (fun ad e => by injection e with e; subst e; show gs ≠ D; omega) (by decide) (by decide)).mono ?_
            rintro e z61 ⟨ve, rfl, hve1, hg⟩
            clear hve1
            have HF : Hid (BN D n0 z60 z61) := Lib.hid (BN.but hg.2 HN.out)
            replace HN := Lib.hid (Nat.le_trans HN.out hg.2.size)
            replace HA : Hid (z61.heap[g5]? = some (.cells #[.int .i64 0, .int .i64 0, .int .i64 0] 27 (0, 0))) := Lib.hid ((hg.2.block g5 (Array.getElem?_eq_some_iff.1 HA.out).1 (by omega)).trans HA.out)
            replace HL : Hid (z61.heap[gs]? = some (.cells #[.int .i64 1, .int .i64 3, .int .i64 0, .int .i64 4] 3 (0, 0))) := Lib.hid ((hg.2.block gs (Array.getElem?_eq_some_iff.1 HL.out).1 (by omega)).trans HL.out)
            replace HS : Hid ((∃ kd, DiceAt z61 w.heap.size D t kd) ∧ GOwn z61 P G v0 ∧ Below w.heap.size w z61 ∧ z61.heap[g0]? = some (.cells #[.int .i64 G.sz, .slice A n c, .slice B m k] 25 (0, 0))) := Lib.hid ⟨hg.1, HS.out.2.1.but hg.2 HDP.out, HS.out.2.2.1.trans (hg.2.below (by have := HDD.out; omega) HS.out.2.2.1.size), (hg.2.block g0 (Array.getElem?_eq_some_iff.1 HS.out.2.2.2).1 (by omega)).trans HS.out.2.2.2⟩
            clear hg
            go_wp2_with fail
            refine pieceEnd_normal ⟨HF.out, ?_⟩
            clear HF
            refine flow_val (F := BN D n0) (fun _ => BN.refl _ _ _) (by kernel_rfl) 16 (by kernel_rfl) ?_
            simp only [pick, List.getD_cons_zero, List.getD_cons_succ]
            repeat (go_big_quiet_step (fail))
            refine wpQuiet_nil ?_
            refine flow_one (F := BN D n0) (fun _ _ _ => BN.trans) (fun _ => BN.refl _ _ _) 18 (by kernel_rfl) (by decide) ?_
            simp only [pick, List.getD_cons_zero, List.getD_cons_succ]
            go_wp2_with (refine wpList_store_row rfl 27 (.tmp 7) (.tmp 39) rfl g5 #[.int .i64 (v0e - v1e), .int .i64 v2e, .int .i64 ve] rfl rfl 27 _ HA.out (Edg.info ⟨v0e - v1e, v2e, ve⟩) rfl (by simp [Value.oneCell']) ?_)
            refine pieceEnd_normal ⟨BN.row _ _ hg5, ?_⟩
            have HA5 := Lib.hid (setRow_heap z61 g5 _ #[.int .i64 (v0e - v1e), .int .i64 v2e, .int .i64 ve] _ _ HA.out)
            have HGO : Hid (g0 ≠ g5) := Lib.hid (by omega)
            have HOW : Hid (GOwn (z61.setRow g5 #[.int .i64 (v0e - v1e), .int .i64 v2e, .int .i64 ve]) P G v0) := Lib.hid (by
             obtain ⟨e, gv, he, h1, h2⟩ := HS.out.2.1
             exact ⟨e, gv, he, own_keepL h1 fun q hq => setRow_other z61 g5 q #[.int .i64 (v0e - v1e), .int .i64 v2e, .int .i64 ve] (HOB.out e gv he q (.inl hq) hg5), own_keepL h2 fun q hq => setRow_other z61 g5 q #[.int .i64 (v0e - v1e), .int .i64 v2e, .int .i64 ve] (HOB.out e gv he q (.inr hq) hg5)⟩)
            have HBS : Hid (Below w.heap.size z61 (z61.setRow g5 #[.int .i64 (v0e - v1e), .int .i64 v2e, .int .i64 ve])) := Lib.hid (below_setRow (Below.refl _ _) (by have := HS.out.2.2.1.size; have h8 := HWG.out; omega) #[.int .i64 (v0e - v1e), .int .i64 v2e, .int .i64 ve])
            refine flow_done (by kernel_rfl) ?_
            go_wp2_with fail
            go_meet
            exact ⟨g5, ⟨v0e - v1e, v2e, ve⟩, rfl, Lib.hid ⟨(by obtain ⟨kd, hk⟩ := HS.out.1; exact ⟨kd, hk.below (below_setRow (Below.refl _ _) (Nat.le_refl g5) #[.int .i64 (v0e - v1e), .int .i64 v2e, .int .i64 ve]) (by omega)⟩), HOW.out, HS.out.2.2.1.trans HBS.out, (setRow_other z61 g5 g0 #[.int .i64 (v0e - v1e), .int .i64 v2e, .int .i64 ve] HGO.out).trans HS.out.2.2.2, HA5.out, by omega⟩⟩
          ·
           skip
           go_wp2_with fail
           have hb := one_new z56 (.cells #[.int .i64 0, .int .i64 0, .int .i64 0] 27)
           refine pieceEnd_normal ⟨BN.later hb HN.out, ?_⟩
           have HA : Hid ((z56.alloc (.cells #[.int .i64 0, .int .i64 0, .int .i64 0] 27)).heap[z56.heap.size]? = some (.cells #[.int .i64 0, .int .i64 0, .int .i64 0] 27 (0, 0))) := Lib.hid (heap_alloc_new _ _)
           have hg5 : n0 ≤ z56.heap.size := HN.out
           replace HL : Hid ((z56.alloc (.cells #[.int .i64 0, .int .i64 0, .int .i64 0] 27)).heap[gs]? = some (.cells #[.int .i64 1, .int .i64 3, .int .i64 0, .int .i64 4] 3 (0, 0))) := Lib.hid ((hb.block gs (Array.getElem?_eq_some_iff.1 HL.out).1).trans HL.out)
           replace HS : Hid ((∃ kd, DiceAt (z56.alloc (.cells #[.int .i64 0, .int .i64 0, .int .i64 0] 27)) w.heap.size D t kd) ∧ GOwn (z56.alloc (.cells #[.int .i64 0, .int .i64 0, .int .i64 0] 27)) P G v0 ∧ Below w.heap.size w (z56.alloc (.cells #[.int .i64 0, .int .i64 0, .int .i64 0] 27)) ∧ (z56.alloc (.cells #[.int .i64 0, .int .i64 0, .int .i64 0] 27)).heap[g0]? = some (.cells #[.int .i64 G.sz, .slice A n c, .slice B m k] 25 (0, 0))) := Lib.hid ⟨(by obtain ⟨kd, hk⟩ := HS.out.1; exact ⟨kd, hk.later hb⟩), HS.out.2.1.later hb, HS.out.2.2.1.trans (hb.mono HS.out.2.2.1.size), (hb.block g0 (Array.getElem?_eq_some_iff.1 HS.out.2.2.2).1).trans HS.out.2.2.2⟩
           replace HN := Lib.hid (Nat.le_trans HN.out hb.size)
           clear hb
           generalize z56.alloc (.cells #[.int .i64 0, .int .i64 0, .int .i64 0] 27) = z62 at *
           generalize z56.heap.size = g5 at *
           refine flow_one (F := BN D n0) (fun _ _ _ => BN.trans) (fun _ => BN.refl _ _ _) 12 (by kernel_rfl) (by decide) ?_
           simp only [pick, List.getD_cons_zero, List.getD_cons_succ]
           go_wp2_with fail
           refine (next_g w.heap.size D t (G.sz + 1) z62 HS.out.1 (by omega) (by omega)).mono ?_
           rintro e z63 ⟨v2e, rfl, hv2e0, hv2e1, hg⟩
           have HF : Hid (BN D n0 z62 z63) := Lib.hid (BN.but hg.2 HN.out)
           replace HN := Lib.hid (Nat.le_trans HN.out hg.2.size)
           replace HA : Hid (z63.heap[g5]? = some (.cells #[.int .i64 0, .int .i64 0, .int .i64 0] 27 (0, 0))) := Lib.hid ((hg.2.block g5 (Array.getElem?_eq_some_iff.1 HA.out).1 (by omega)).trans HA.out)
           replace HL : Hid (z63.heap[gs]? = some (.cells #[.int .i64 1, .int .i64 3, .int .i64 0, .int .i64 4] 3 (0, 0))) := Lib.hid ((hg.2.block gs (Array.getElem?_eq_some_iff.1 HL.out).1 (by omega)).trans HL.out)
           replace HS : Hid ((∃ kd, DiceAt z63 w.heap.size D t kd) ∧ GOwn z63 P G v0 ∧ Below w.heap.size w z63 ∧ z63.heap[g0]? = some (.cells #[.int .i64 G.sz, .slice A n c, .slice B m k] 25 (0, 0))) := Lib.hid ⟨hg.1, HS.out.2.1.but hg.2 HDP.out, HS.out.2.2.1.trans (hg.2.below (by have := HDD.out; omega) HS.out.2.2.1.size), (hg.2.block g0 (Array.getElem?_eq_some_iff.1 HS.out.2.2.2).1 (by omega)).trans HS.out.2.2.2⟩
           clear hg
           go_wp2_with fail
           refine pieceEnd_normal ⟨HF.out, ?_⟩
           clear HF
           refine flow_one (F := BN D n0) (fun _ _ _ => BN.trans) (fun _ => BN.refl _ _ _) 15 (by kernel_rfl) (by decide) ?_
           simp only [pick, List.getD_cons_zero, List.getD_cons_succ]
           go_wp2_with fail
           refine (of_g w.heap.size D t (some ⟨gs, 0, none⟩) 4 4 [1, 3, 0, 4] z63 HS.out.1 (row4 HL.out) (fun ad e => by injection e with e; subst e; show gs ≠ D; omega) (by decide) (by decide)).mono ?_
           rintro e z64 ⟨ve, rfl, hve1, hg⟩
           clear hve1
           have HF : Hid (BN D n0 z63 z64) := Lib.hid (BN.but hg.2 HN.out)
           replace HN := Lib.hid (Nat.le_trans HN.out hg.2.size)
           replace HA : Hid (z64.heap[g5]? = some (.cells #[.int .i64 0, .int .i64 0, .int .i64 0] 27 (0, 0))) := Lib.hid ((hg.2.block g5 (Array.getElem?_eq_some_iff.1 HA.out).1 (by omega)).trans HA.out)
           replace HL : Hid (z64.heap[gs]? = some (.cells #[.int .i64 1, .int .i64 3, .int .i64 0, .int .i64 4] 3 (0, 0))) := Lib.hid ((hg.2.block gs (Array.getElem?_eq_some_iff.1 HL.out).1 (by omega)).trans HL.out)
           replace HS : Hid ((∃ kd, DiceAt z64 w.heap.size D t kd) ∧ GOwn z64 P G v0 ∧ Below w.heap.size w z64 ∧ z64.heap[g0]? = some (.cells #[.int .i64 G.sz, .slice A n c, .slice B m k] 25 (0, 0))) := Lib.hid ⟨hg.1, HS.out.2.1.but hg.2 HDP.out, HS.out.2.2.1.trans (hg.2.below (by have := HDD.out; omega) HS.out.2.2.1.size), (hg.2.block g0 (Array.getElem?_eq_some_iff.1 HS.out.2.2.2).1 (by omega)).trans HS.out.2.2.2⟩
           clear hg
           go_wp2_with fail
           refine pieceEnd_normal ⟨HF.out, ?_⟩
           clear HF
           refine flow_val (F := BN D n0) (fun _ => BN.refl _ _ _) (by kernel_rfl) 16 (by kernel_rfl) ?_
           simp only [pick, List.getD_cons_zero, List.getD_cons_succ]
           repeat (go_big_quiet_step (fail))
           refine wpQuiet_nil ?_
           refine flow_one (F := BN D n0) (fun _ _ _ => BN.trans) (fun _ => BN.refl _ _ _) 18 (by kernel_rfl) (by decide) ?_
           simp only [pick, List.getD_cons_zero, List.getD_cons_succ]
           go_wp2_with (refine wpList_store_row rfl 27 (.tmp 7) (.tmp 39) rfl g5 #[.int .i64 (v0e - v1e), .int .i64 v2e, .int .i64 ve] rfl rfl 27 _ HA.out (Edg.info ⟨v0e - v1e, v2e, ve⟩) rfl (by simp [Value.oneCell']) ?_)
           refine pieceEnd_normal ⟨BN.row _ _ hg5, ?_⟩
           have HA5 := Lib.hid (setRow_heap z64 g5 _ #[.int .i64 (v0e - v1e), .int .i64 v2e, .int .i64 ve] _ _ HA.out)
           have HGO : Hid (g0 ≠ g5) := Lib.hid (by omega)
           have HOW : Hid (GOwn (z64.setRow g5 #[.int .i64 (v0e - v1e), .int .i64 v2e, .int .i64 ve]) P G v0) := Lib.hid (by
            obtain ⟨e, gv, he, h1, h2⟩ := HS.out.2.1
            exact ⟨e, gv, he, own_keepL h1 fun q hq => setRow_other z64 g5 q #[.int .i64 (v0e - v1e), .int .i64 v2e, .int .i64 ve] (HOB.out e gv he q (.inl hq) hg5), own_keepL h2 fun q hq => setRow_other z64 g5 q #[.int .i64 (v0e - v1e), .int .i64 v2e, .int .i64 ve] (HOB.out e gv he q (.inr hq) hg5)⟩)
           have HBS : Hid (Below w.heap.size z64 (z64.setRow g5 #[.int .i64 (v0e - v1e), .int .i64 v2e, .int .i64 ve])) := Lib.hid (below_setRow (Below.refl _ _) (by have := HS.out.2.2.1.size; have h8 := HWG.out; omega) #[.int .i64 (v0e - v1e), .int .i64 v2e, .int .i64 ve])
           refine flow_done (by kernel_rfl) ?_
           go_wp2_with fail
           go_meet
           exact ⟨g5, ⟨v0e - v1e, v2e, ve⟩, rfl, Lib.hid ⟨(by obtain ⟨kd, hk⟩ := HS.out.1; exact ⟨kd, hk.below (below_setRow (Below.refl _ _) (Nat.le_refl g5) #[.int .i64 (v0e - v1e), .int .i64 v2e, .int .i64 ve]) (by omega)⟩), HOW.out, HS.out.2.2.1.trans HBS.out, (setRow_other z64 g5 g0 #[.int .i64 (v0e - v1e), .int .i64 v2e, .int .i64 ve] HGO.out).trans HS.out.2.2.2, HA5.out, by omega⟩⟩
        ·
         as_aux_lemma =>
          go_wp2_with fail
          have hb := one_new z55 (.cells #[.int .i64 0, .int .i64 0, .int .i64 0] 27)
          refine pieceEnd_normal ⟨BN.later hb HN.out, ?_⟩
          have HA : Hid ((z55.alloc (.cells #[.int .i64 0, .int .i64 0, .int .i64 0] 27)).heap[z55.heap.size]? = some (.cells #[.int .i64 0, .int .i64 0, .int .i64 0] 27 (0, 0))) := Lib.hid (heap_alloc_new _ _)
          have hg5 : n0 ≤ z55.heap.size := HN.out
          replace HL : Hid ((z55.alloc (.cells #[.int .i64 0, .int .i64 0, .int .i64 0] 27)).heap[gs]? = some (.cells #[.int .i64 1, .int .i64 3, .int .i64 0, .int .i64 4] 3 (0, 0))) := Lib.hid ((hb.block gs (Array.getElem?_eq_some_iff.1 HL.out).1).trans HL.out)
          replace HS : Hid ((∃ kd, DiceAt (z55.alloc (.cells #[.int .i64 0, .int .i64 0, .int .i64 0] 27)) w.heap.size D t kd) ∧ GOwn (z55.alloc (.cells #[.int .i64 0, .int .i64 0, .int .i64 0] 27)) P G v0 ∧ Below w.heap.size w (z55.alloc (.cells #[.int .i64 0, .int .i64 0, .int .i64 0] 27)) ∧ (z55.alloc (.cells #[.int .i64 0, .int .i64 0, .int .i64 0] 27)).heap[g0]? = some (.cells #[.int .i64 G.sz, .slice A n c, .slice B m k] 25 (0, 0))) := Lib.hid ⟨(by obtain ⟨kd, hk⟩ := HS.out.1; exact ⟨kd, hk.later hb⟩), HS.out.2.1.later hb, HS.out.2.2.1.trans (hb.mono HS.out.2.2.1.size), (hb.block g0 (Array.getElem?_eq_some_iff.1 HS.out.2.2.2).1).trans HS.out.2.2.2⟩
          replace HN := Lib.hid (Nat.le_trans HN.out hb.size)
          clear hb
          generalize z55.alloc (.cells #[.int .i64 0, .int .i64 0, .int .i64 0] 27) = z65 at *
          generalize z55.heap.size = g5 at *
          refine flow_one (F := BN D n0) (fun _ _ _ => BN.trans) (fun _ => BN.refl _ _ _) 6 (by kernel_rfl) (by decide) ?_
          simp only [pick, List.getD_cons_zero, List.getD_cons_succ]
          go_wp2_with fail
          refine (next_g w.heap.size D t 2 z65 HS.out.1 (by omega) (by omega)).mono ?_
          rintro e z66 ⟨v1e, rfl, hv1e0, hv1e1, hg⟩
          have HF : Hid (BN D n0 z65 z66) := Lib.hid (BN.but hg.2 HN.out)
          replace HN := Lib.hid (Nat.le_trans HN.out hg.2.size)
          replace HA : Hid (z66.heap[g5]? = some (.cells #[.int .i64 0, .int .i64 0, .int .i64 0] 27 (0, 0))) := Lib.hid ((hg.2.block g5 (Array.getElem?_eq_some_iff.1 HA.out).1 (by omega)).trans HA.out)
          replace HL : Hid (z66.heap[gs]? = some (.cells #[.int .i64 1, .int .i64 3, .int .i64 0, .int .i64 4] 3 (0, 0))) := Lib.hid ((hg.2.block gs (Array.getElem?_eq_some_iff.1 HL.out).1 (by omega)).trans HL.out)
          replace HS : Hid ((∃ kd, DiceAt z66 w.heap.size D t kd) ∧ GOwn z66 P G v0 ∧ Below w.heap.size w z66 ∧ z66.heap[g0]? = some (.cells #[.int .i64 G.sz, .slice A n c, .slice B m k] 25 (0, 0))) := Lib.hid ⟨hg.1, HS.out.2.1.but hg.2 HDP.out, HS.out.2.2.1.trans (hg.2.below (by have := HDD.out; omega) HS.out.2.2.1.size), (hg.2.block g0 (Array.getElem?_eq_some_iff.1 HS.out.2.2.2).1 (by omega)).trans HS.out.2.2.2⟩
          clear hg
          go_wp2_with fail
          refine pieceEnd_normal ⟨HF.out, ?_⟩
          clear HF
          refine flow_reads (F := BN D n0) (fun _ => BN.refl _ _ _) (by kernel_rfl) [7] (fuel := 4) (by kernel_rfl) ?_
          simp only [List.map_cons, List.map_nil, pick, List.getD_cons_zero, List.getD_cons_succ]
          repeat (go_big_quiet_step (fail))
          refine wpQuiet_nil ?_
          refine flow_one (F := BN D n0) (fun _ _ _ => BN.trans) (fun _ => BN.refl _ _ _) 12 (by kernel_rfl) (by decide) ?_
          simp only [pick, List.getD_cons_zero, List.getD_cons_succ]
          go_wp2_with fail
          refine (next_g w.heap.size D t (G.sz + 1) z66 HS.out.1 (by omega) (by omega)).mono ?_
          rintro e z67 ⟨v2e, rfl, hv2e0, hv2e1, hg⟩
          have HF : Hid (BN D n0 z66 z67) := Lib.hid (BN.but hg.2 HN.out)
          replace HN := Lib.hid (Nat.le_trans HN.out hg.2.size)
          replace HA : Hid (z67.heap[g5]? = some (.cells #[.int .i64 0, .int .i64 0, .int .i64 0] 27 (0, 0))) := Lib.hid ((hg.2.block g5 (Array.getElem?_eq_some_iff.1 HA.out).1 (by omega)).trans HA.out)
          replace HL : Hid (z67.heap[gs]? = some (.cells #[.int .i64 1, .int .i64 3, .int .i64 0, .int .i64 4] 3 (0, 0))) := Lib.hid ((hg.2.block gs (Array.getElem?_eq_some_iff.1 HL.out).1 (by omega)).trans HL.out)
          replace HS : Hid ((∃ kd, DiceAt z67 w.heap.size D t kd) ∧ GOwn z67 P G v0 ∧ Below w.heap.size w z67 ∧ z67.heap[g0]? = some (.cells #[.int .i64 G.sz, .slice A n c, .slice B m k] 25 (0, 0))) := Lib.hid ⟨hg.1, HS.out.2.1.but hg.2 HDP.out, HS.out.2.2.1.trans (hg.2.below (by have := HDD.out; omega) HS.out.2.2.1.size), (hg.2.block g0 (Array.getElem?_eq_some_iff.1 HS.out.2.2.2).1 (by omega)).trans HS.out.2.2.2⟩
          clear hg
          go_wp2_with fail
          refine pieceEnd_normal ⟨HF.out, ?_⟩
          clear HF
          refine flow_one (F := BN D n0) (fun _ _ _ => BN.trans) (fun _ => BN.refl _ _ _) 15 (by kernel_rfl) (by decide) ?_
          simp only [pick, List.getD_cons_zero, List.getD_cons_succ]
          go_wp2_with fail
          refine (of_g w.heap.size D t (some ⟨gs, 0, none⟩) 4 4 [1, 3, 0, 4] z67 HS.out.1 (row4 HL.out) (fun ad e => by injection e with e; subst e; show gs ≠ D; omega) (by decide) (by decide)).mono ?_
          rintro e z68 ⟨ve, rfl, hve1, hg⟩
          clear hve1
          have HF : Hid (BN D n0 z67 z68) := Lib.hid (BN.but hg.2 HN.out)
          replace HN := Lib.hid (Nat.le_trans HN.out hg.2.size)
          replace HA : Hid (z68.heap[g5]? = some (.cells #[.int .i64 0, .int .i64 0, .int .i64 0] 27 (0, 0))) := Lib.hid ((hg.2.block g5 (Array.getElem?_eq_some_iff.1 HA.out).1 (by omega)).trans HA.out)
          replace HL : Hid (z68.heap[gs]? = some (.cells #[.int .i64 1, .int .i64 3, .int .i64 0, .int .i64 4] 3 (0, 0))) := Lib.hid ((hg.2.block gs (Array.getElem?_eq_some_iff.1 HL.out).1 (by omega)).trans HL.out)
          replace HS : Hid ((∃ kd, DiceAt z68 w.heap.size D t kd) ∧ GOwn z68 P G v0 ∧ Below w.heap.size w z68 ∧ z68.heap[g0]? = some (.cells #[.int .i64 G.sz, .slice A n c, .slice B m k] 25 (0, 0))) := Lib.hid ⟨hg.1, HS.out.2.1.but hg.2 HDP.out, HS.out.2.2.1.trans (hg.2.below (by have := HDD.out; omega) HS.out.2.2.1.size), (hg.2.block g0 (Array.getElem?_eq_some_iff.1 HS.out.2.2.2).1 (by omega)).trans HS.out.2.2.2⟩
          clear hg
          go_wp2_with fail
          refine pieceEnd_normal ⟨HF.out, ?_⟩
          clear HF
          refine flow_val (F := BN D n0) (fun _ => BN.refl _ _ _) (by kernel_rfl) 16 (by kernel_rfl) ?_
          simp only [pick, List.getD_cons_zero, List.getD_cons_succ]
          repeat (go_big_quiet_step (fail))
          refine wpQuiet_nil ?_
          refine flow_one (F := BN D n0) (fun _ _ _ => BN.trans) (fun _ => BN.refl _ _ _) 18 (by kernel_rfl) (by decide) ?_
          simp only [pick, List.getD_cons_zero, List.getD_cons_succ]
          go_wp2_with (refine wpList_store_row rfl 27 (.tmp 7) (.tmp 39) rfl g5 #[.int .i64 (v0e - v1e), .int .i64 v2e, .int .i64 ve] rfl rfl 27 _ HA.out (Edg.info ⟨v0e - v1e, v2e, ve⟩) rfl (by simp [Value.oneCell']) ?_)
          refine pieceEnd_normal ⟨BN.row _ _ hg5, ?_⟩
          have HA5 := Lib.hid (setRow_heap z68 g5 _ #[.int .i64 (v0e - v1e), .int .i64 v2e, .int .i64 ve] _ _ HA.out)
          have HGO : Hid (g0 ≠ g5) := Lib.hid (by omega)
          have HOW : Hid (GOwn (z68.setRow g5 #[.int .i64 (v0e - v1e), .int .i64 v2e, .int .i64 ve]) P G v0) := Lib.hid (by
           obtain ⟨e, gv, he, h1, h2⟩ := HS.out.2.1
           exact ⟨e, gv, he, own_keepL h1 fun q hq => setRow_other z68 g5 q #[.int .i64 (v0e - v1e), .int .i64 v2e, .int .i64 ve] (HOB.out e gv he q (.inl hq) hg5), own_keepL h2 fun q hq => setRow_other z68 g5 q #[.int .i64 (v0e - v1e), .int .i64 v2e, .int .i64 ve] (HOB.out e gv he q (.inr hq) hg5)⟩)
          have HBS : Hid (Below w.heap.size z68 (z68.setRow g5 #[.int .i64 (v0e - v1e), .int .i64 v2e, .int .i64 ve])) := Lib.hid (below_setRow (Below.refl _ _) (by have := HS.out.2.2.1.size; have h8 := HWG.out; omega) #[.int .i64 (v0e - v1e), .int .i64 v2e, .int .i64 ve])
          refine flow_done (by kernel_rfl) ?_
          go_wp2_with fail
          go_meet
          exact ⟨g5, ⟨v0e - v1e, v2e, ve⟩, rfl, Lib.hid ⟨(by obtain ⟨kd, hk⟩ := HS.out.1; exact ⟨kd, hk.below (below_setRow (Below.refl _ _) (Nat.le_refl g5) #[.int .i64 (v0e - v1e), .int .i64 v2e, .int .i64 ve]) (by omega)⟩), HOW.out, HS.out.2.2.1.trans HBS.out, (setRow_other z68 g5 g0 #[.int .i64 (v0e - v1e), .int .i64 v2e, .int .i64 ve] HGO.out).trans HS.out.2.2.2, HA5.out, by omega⟩⟩
      ·
       as_aux_lemma =>
        go_wp2_with fail
        have hb := one_new z54 (.cells #[.int .i64 0, .int .i64 0, .int .i64 0] 27)
        refine pieceEnd_normal ⟨BN.later hb HN.out, ?_⟩
        have HA : Hid ((z54.alloc (.cells #[.int .i64 0, .int .i64 0, .int .i64 0] 27)).heap[z54.heap.size]? = some (.cells #[.int .i64 0, .int .i64 0, .int .i64 0] 27 (0, 0))) := Lib.hid (heap_alloc_new _ _)
        have hg5 : n0 ≤ z54.heap.size := HN.out
        replace HL : Hid ((z54.alloc (.cells #[.int .i64 0, .int .i64 0, .int .i64 0] 27)).heap[gs]? = some (.cells #[.int .i64 1, .int .i64 3, .int .i64 0, .int .i64 4] 3 (0, 0))) := Lib.hid ((hb.block gs (Array.getElem?_eq_some_iff.1 HL.out).1).trans HL.out)
        replace HS : Hid ((∃ kd, DiceAt (z54.alloc (.cells #[.int .i64 0, .int .i64 0, .int .i64 0] 27)) w.heap.size D t kd) ∧ GOwn (z54.alloc (.cells #[.int .i64 0, .int .i64 0, .int .i64 0] 27)) P G v0 ∧ Below w.heap.size w (z54.alloc (.cells #[.int .i64 0, .int .i64 0, .int .i64 0] 27)) ∧ (z54.alloc (.cells #[.int .i64 0, .int .i64 0, .int .i64 0] 27)).heap[g0]? = some (.cells #[.int .i64 G.sz, .slice A n c, .slice B m k] 25 (0, 0))) := Lib.hid ⟨(by obtain ⟨kd, hk⟩ := HS.out.1; exact ⟨kd, hk.later hb⟩), HS.out.2.1.later hb, HS.out.2.2.1.trans (hb.mono HS.out.2.2.1.size), (hb.block g0 (Array.getElem?_eq_some_iff.1 HS.out.2.2.2).1).trans HS.out.2.2.2⟩
        replace HN := Lib.hid (Nat.le_trans HN.out hb.size)
        clear hb
        generalize z54.alloc (.cells #[.int .i64 0, .int .i64 0, .int .i64 0] 27) = z69 at *
        generalize z54.heap.size = g5 at *
        refine flow_one (F := BN D n0) (fun _ _ _ => BN.trans) (fun _ => BN.refl _ _ _) 4 (by kernel_rfl) (by decide) ?_
        simp only [pick, List.getD_cons_zero, List.getD_cons_succ]
        go_wp2_with fail
        refine (next_g w.heap.size D t (G.sz + 1) z69 HS.out.1 (by omega) (by omega)).mono ?_
        rintro e z70 ⟨v0e, rfl, hv0e0, hv0e1, hg⟩
        have HF : Hid (BN D n0 z69 z70) := Lib.hid (BN.but hg.2 HN.out)
        replace HN := Lib.hid (Nat.le_trans HN.out hg.2.size)
        replace HA : Hid (z70.heap[g5]? = some (.cells #[.int .i64 0, .int .i64 0, .int .i64 0] 27 (0, 0))) := Lib.hid ((hg.2.block g5 (Array.getElem?_eq_some_iff.1 HA.out).1 (by omega)).trans HA.out)
        replace HL : Hid (z70.heap[gs]? = some (.cells #[.int .i64 1, .int .i64 3, .int .i64 0, .int .i64 4] 3 (0, 0))) := Lib.hid ((hg.2.block gs (Array.getElem?_eq_some_iff.1 HL.out).1 (by omega)).trans HL.out)
        replace HS : Hid ((∃ kd, DiceAt z70 w.heap.size D t kd) ∧ GOwn z70 P G v0 ∧ Below w.heap.size w z70 ∧ z70.heap[g0]? = some (.cells #[.int .i64 G.sz, .slice A n c, .slice B m k] 25 (0, 0))) := Lib.hid ⟨hg.1, HS.out.2.1.but hg.2 HDP.out, HS.out.2.2.1.trans (hg.2.below (by have := HDD.out; omega) HS.out.2.2.1.size), (hg.2.block g0 (Array.getElem?_eq_some_iff.1 HS.out.2.2.2).1 (by omega)).trans HS.out.2.2.2⟩
        clear hg
        go_wp2_with fail
        refine pieceEnd_normal ⟨HF.out, ?_⟩
        clear HF
        refine flow_one (F := BN D n0) (fun _ _ _ => BN.trans) (fun _ => BN.refl _ _ _) 6 (by kernel_rfl) (by decide) ?_
        simp only [pick, List.getD_cons_zero, List.getD_cons_succ]
        go_wp2_with fail
        refine (next_g w.heap.size D t 2 z70 HS.out.1 (by omega) (by omega)).mono ?_
        rintro e z71 ⟨v1e, rfl, hv1e0, hv1e1, hg⟩
        have HF : Hid (BN D n0 z70 z71) := Lib.hid (BN.but hg.2 HN.out)
        replace HN := Lib.hid (Nat.le_trans HN.out hg.2.size)
        replace HA : Hid (z71.heap[g5]? = some (.cells #[.int .i64 0, .int .i64 0, .int .i64 0] 27 (0, 0))) := Lib.hid ((hg.2.block g5 (Array.getElem?_eq_some_iff.1 HA.out).1 (by omega)).trans HA.out)
        replace HL : Hid (z71.heap[gs]? = some (.cells #[.int .i64 1, .int .i64 3, .int .i64 0, .int .i64 4] 3 (0, 0))) := Lib.hid ((hg.2.block gs (Array.getElem?_eq_some_iff.1 HL.out).1 (by omega)).trans HL.out)
        replace HS : Hid ((∃ kd, DiceAt z71 w.heap.size D t kd) ∧ GOwn z71 P G v0 ∧ Below w.heap.size w z71 ∧ z71.heap[g0]? = some (.cells #[.int .i64 G.sz, .slice A n c, .slice B m k] 25 (0, 0))) := Lib.hid ⟨hg.1, HS.out.2.1.but hg.2 HDP.out, HS.out.2.2.1.trans (hg.2.below (by have := HDD.out; omega) HS.out.2.2.1.size), (hg.2.block g0 (Array.getElem?_eq_some_iff.1 HS.out.2.2.2).1 (by omega)).trans HS.out.2.2.2⟩
        clear hg
        go_wp2_with fail
        refine pieceEnd_normal ⟨HF.out, ?_⟩
        clear HF
        refine flow_reads (F := BN D n0) (fun _ => BN.refl _ _ _) (by kernel_rfl) [7] (fuel := 4) (by kernel_rfl) ?_
        simp only [List.map_cons, List.map_nil, pick, List.getD_cons_zero, List.getD_cons_succ]
        repeat (go_big_quiet_step (fail))
        refine wpQuiet_nil ?_
        refine flow_one (F := BN D n0) (fun _ _ _ => BN.trans) (fun _ => BN.refl _ _ _) 12 (by kernel_rfl) (by decide) ?_
        simp only [pick, List.getD_cons_zero, List.getD_cons_succ]
        go_wp2_with fail
        refine (next_g w.heap.size D t (G.sz + 1) z71 HS.out.1 (by omega) (by omega)).mono ?_
        rintro e z72 ⟨v2e, rfl, hv2e0, hv2e1, hg⟩
        have HF : Hid (BN D n0 z71 z72) := Lib.hid (BN.but hg.2 HN.out)
        replace HN := Lib.hid (Nat.le_trans HN.out hg.2.size)
        replace HA : Hid (z72.heap[g5]? = some (.cells #[.int .i64 0, .int .i64 0, .int .i64 0] 27 (0, 0))) := Lib.hid ((hg.2.block g5 (Array.getElem?_eq_some_iff.1 HA.out).1 (by omega)).trans HA.out)
        replace HL : Hid (z72.heap[gs]? = some (.cells #[.int .i64 1, .int .i64 3, .int .i64 0, .int .i64 4] 3 (0, 0))) := Lib.hid ((hg.2.block gs (Array.getElem?_eq_some_iff.1 HL.out).1 (by omega)).trans HL.out)
        replace HS : Hid ((∃ kd, DiceAt z72 w.heap.size D t kd) ∧ GOwn z72 P G v0 ∧ Below w.heap.size w z72 ∧ z72.heap[g0]? = some (.cells #[.int .i64 G.sz, .slice A n c, .slice B m k] 25 (0, 0))) := Lib.hid ⟨hg.1, HS.out.2.1.but hg.2 HDP.out, HS.out.2.2.1.trans (hg.2.below (by have := HDD.out; omega) HS.out.2.2.1.size), (hg.2.block g0 (Array.getElem?_eq_some_iff.1 HS.out.2.2.2).1 (by omega)).trans HS.out.2.2.2⟩
        clear hg
        go_wp2_with fail
        refine pieceEnd_normal ⟨HF.out, ?_⟩
        clear HF
        refine flow_one (F := BN D n0) (fun _ _ _ => BN.trans) (fun _ => BN.refl _ _ _) 15 (by kernel_rfl) (by decide) ?_
        simp only [pick, List.getD_cons_zero, List.getD_cons_succ]
        go_wp2_with fail
        refine (of_g w.heap.size D t (some ⟨gs, 0, none⟩) 4 4 [1, 3, 0, 4] z72 HS.out.1 (row4 HL.out) (fun ad e => by injection e with e; subst e; show gs ≠ D; omega) (by decide) (by decide)).mono ?_
        rintro e z73 ⟨ve, rfl, hve1, hg⟩
        clear hve1
        have HF : Hid (BN D n0 z72 z73) := Lib.hid (BN.but hg.2 HN.out)
        replace HN := Lib.hid (Nat.le_trans HN.out hg.2.size)
        replace HA : Hid (z73.heap[g5]? = some (.cells #[.int .i64 0, .int .i64 0, .int .i64 0] 27 (0, 0))) := Lib.hid ((hg.2.block g5 (Array.getElem?_eq_some_iff.1 HA.out).1 (by omega)).trans HA.out)
        replace HL : Hid (z73.heap[gs]? = some (.cells #[.int .i64 1, .int .i64 3, .int .i64 0, .int .i64 4] 3 (0, 0))) := Lib.hid ((hg.2.block gs (Array.getElem?_eq_some_iff.1 HL.out).1 (by omega)).trans HL.out)
        replace HS : Hid ((∃ kd, DiceAt z73 w.heap.size D t kd) ∧ GOwn z73 P G v0 ∧ Below w.heap.size w z73 ∧ z73.heap[g0]? = some (.cells #[.int .i64 G.sz, .slice A n c, .slice B m k] 25 (0, 0))) := Lib.hid ⟨hg.1, HS.out.2.1.but hg.2 HDP.out, HS.out.2.2.1.trans (hg.2.below (by have := HDD.out; omega) HS.out.2.2.1.size), (hg.2.block g0 (Array.getElem?_eq_some_iff.1 HS.out.2.2.2).1 (by omega)).trans HS.out.2.2.2⟩
        clear hg
        go_wp2_with fail
        refine pieceEnd_normal ⟨HF.out, ?_⟩
        clear HF
        refine flow_val (F := BN D n0) (fun _ => BN.refl _ _ _) (by kernel_rfl) 16 (by kernel_rfl) ?_
        simp only [pick, List.getD_cons_zero, List.getD_cons_succ]
        repeat (go_big_quiet_step (fail))
        refine wpQuiet_nil ?_
        refine flow_one (F := BN D n0) (fun _ _ _ => BN.trans) (fun _ => BN.refl _ _ _) 18 (by kernel_rfl) (by decide) ?_
        simp only [pick, List.getD_cons_zero, List.getD_cons_succ]
        go_wp2_with (refine wpList_store_row rfl 27 (.tmp 7) (.tmp 39) rfl g5 #[.int .i64 (v0e - v1e), .int .i64 v2e, .int .i64 ve] rfl rfl 27 _ HA.out (Edg.info ⟨v0e - v1e, v2e, ve⟩) rfl (by simp [Value.oneCell']) ?_)
        refine pieceEnd_normal ⟨BN.row _ _ hg5, ?_⟩
        have HA5 := Lib.hid (setRow_heap z73 g5 _ #[.int .i64 (v0e - v1e), .int .i64 v2e, .int .i64 ve] _ _ HA.out)
        have HGO : Hid (g0 ≠ g5) := Lib.hid (by omega)
        have HOW : Hid (GOwn (z73.setRow g5 #[.int .i64 (v0e - v1e), .int .i64 v2e, .int .i64 ve]) P G v0) := Lib.hid (by
         obtain ⟨e, gv, he, h1, h2⟩ := HS.out.2.1
         exact ⟨e, gv, he, own_keepL h1 fun q hq => setRow_other z73 g5 q #[.int .i64 (v0e - v1e), .int .i64 v2e, .int .i64 ve] (HOB.out e gv he q (.inl hq) hg5), own_keepL h2 fun q hq => setRow_other z73 g5 q #[.int .i64 (v0e - v1e), .int .i64 v2e, .int .i64 ve] (HOB.out e gv he q (.inr hq) hg5)⟩)
        have HBS : Hid (Below w.heap.size z73 (z73.setRow g5 #[.int .i64 (v0e - v1e), .int .i64 v2e, .int .i64 ve])) := Lib.hid (below_setRow (Below.refl _ _) (by have := HS.out.2.2.1.size; have h8 := HWG.out; omega) #[.int .i64 (v0e - v1e), .int .i64 v2e, .int .i64 ve])
        refine flow_done (by kernel_rfl) ?_
        go_wp2_with fail
        go_meet
        exact ⟨g5, ⟨v0e - v1e, v2e, ve⟩, rfl, Lib.hid ⟨(by obtain ⟨kd, hk⟩ := HS.out.1; exact ⟨kd, hk.below (below_setRow (Below.refl _ _) (Nat.le_refl g5) #[.int .i64 (v0e - v1e), .int .i64 v2e, .int .i64 ve]) (by omega)⟩), HOW.out, HS.out.2.2.1.trans HBS.out, (setRow_other z73 g5 g0 #[.int .i64 (v0e - v1e), .int .i64 v2e, .int .i64 ve] HGO.out).trans HS.out.2.2.2, HA5.out, by omega⟩⟩
    ·
     as_aux_lemma =>
      go_wp2_with fail
      have hb := one_new z0 (.cells #[.int .i64 0, .int .i64 0, .int .i64 0] 27)
      refine pieceEnd_normal ⟨BN.later hb HN.out, ?_⟩
      have HA : Hid ((z0.alloc (.cells #[.int .i64 0, .int .i64 0, .int .i64 0] 27)).heap[z0.heap.size]? = some (.cells #[.int .i64 0, .int .i64 0, .int .i64 0] 27 (0, 0))) := Lib.hid (heap_alloc_new _ _)
      have hg5 : n0 ≤ z0.heap.size := HN.out
      replace HS : Hid ((∃ kd, DiceAt (z0.alloc (.cells #[.int .i64 0, .int .i64 0, .int .i64 0] 27)) w.heap.size D t kd) ∧ GOwn (z0.alloc (.cells #[.int .i64 0, .int .i64 0, .int .i64 0] 27)) P G v0 ∧ Below w.heap.size w (z0.alloc (.cells #[.int .i64 0, .int .i64 0, .int .i64 0] 27)) ∧ (z0.alloc (.cells #[.int .i64 0, .int .i64 0, .int .i64 0] 27)).heap[g0]? = some (.cells #[.int .i64 G.sz, .slice A n c, .slice B m k] 25 (0, 0))) := Lib.hid ⟨(by obtain ⟨kd, hk⟩ := HS.out.1; exact ⟨kd, hk.later hb⟩), HS.out.2.1.later hb, HS.out.2.2.1.trans (hb.mono HS.out.2.2.1.size), (hb.block g0 (Array.getElem?_eq_some_iff.1 HS.out.2.2.2).1).trans HS.out.2.2.2⟩
      replace HN := Lib.hid (Nat.le_trans HN.out hb.size)
      clear hb
      generalize z0.alloc (.cells #[.int .i64 0, .int .i64 0, .int .i64 0] 27) = z74 at *
      generalize z0.heap.size = g5 at *
      refine flow_two (F := BN D n0) (fun _ _ _ => BN.trans) (fun _ => BN.refl _ _ _) 4 14 (by kernel_rfl) (by decide) (by decide) ?_ ?_ <;> simp only [pick, List.getD_cons_zero, List.getD_cons_succ]
      ·
       as_aux_lemma =>
        go_wp2_with fail
        refine (next_g w.heap.size D t (G.sz + 1) z74 HS.out.1 (by omega) (by omega)).mono ?_
        rintro e z75 ⟨v0e, rfl, hv0e0, hv0e1, hg⟩
        have HF : Hid (BN D n0 z74 z75) := Lib.hid (BN.but hg.2 HN.out)
        replace HN := Lib.hid (Nat.le_trans HN.out hg.2.size)
        replace HA : Hid (z75.heap[g5]? = some (.cells #[.int .i64 0, .int .i64 0, .int .i64 0] 27 (0, 0))) := Lib.hid ((hg.2.block g5 (Array.getElem?_eq_some_iff.1 HA.out).1 (by omega)).trans HA.out)
        replace HS : Hid ((∃ kd, DiceAt z75 w.heap.size D t kd) ∧ GOwn z75 P G v0 ∧ Below w.heap.size w z75 ∧ z75.heap[g0]? = some (.cells #[.int .i64 G.sz, .slice A n c, .slice B m k] 25 (0, 0))) := Lib.hid ⟨hg.1, HS.out.2.1.but hg.2 HDP.out, HS.out.2.2.1.trans (hg.2.below (by have := HDD.out; omega) HS.out.2.2.1.size), (hg.2.block g0 (Array.getElem?_eq_some_iff.1 HS.out.2.2.2).1 (by omega)).trans HS.out.2.2.2⟩
        clear hg
        go_wp2_with fail
        refine pieceEnd_normal ⟨HF.out, ?_⟩
        clear HF
        refine flow_two (F := BN D n0) (fun _ _ _ => BN.trans) (fun _ => BN.refl _ _ _) 6 14 (by kernel_rfl) (by decide) (by decide) ?_ ?_ <;> simp only [pick, List.getD_cons_zero, List.getD_cons_succ]
        ·
         as_aux_lemma =>
          go_wp2_with fail
          refine (next_g w.heap.size D t 2 z75 HS.out.1 (by omega) (by omega)).mono ?_
          rintro e z76 ⟨v1e, rfl, hv1e0, hv1e1, hg⟩
          have HF : Hid (BN D n0 z75 z76) := Lib.hid (BN.but hg.2 HN.out)
          replace HN := Lib.hid (Nat.le_trans HN.out hg.2.size)
          replace HA : Hid (z76.heap[g5]? = some (.cells #[.int .i64 0, .int .i64 0, .int .i64 0] 27 (0, 0))) := Lib.hid ((hg.2.block g5 (Array.getElem?_eq_some_iff.1 HA.out).1 (by omega)).trans HA.out)
          replace HS : Hid ((∃ kd, DiceAt z76 w.heap.size D t kd) ∧ GOwn z76 P G v0 ∧ Below w.heap.size w z76 ∧ z76.heap[g0]? = some (.cells #[.int .i64 G.sz, .slice A n c, .slice B m k] 25 (0, 0))) := Lib.hid ⟨hg.1, HS.out.2.1.but hg.2 HDP.out, HS.out.2.2.1.trans (hg.2.below (by have := HDD.out; omega) HS.out.2.2.1.size), (hg.2.block g0 (Array.getElem?_eq_some_iff.1 HS.out.2.2.2).1 (by omega)).trans HS.out.2.2.2⟩
          clear hg
          go_wp2_with fail
          refine pieceEnd_normal ⟨HF.out, ?_⟩
          clear HF
          refine flow_reads (F := BN D n0) (fun _ => BN.refl _ _ _) (by kernel_rfl) [7] (fuel := 5) (by kernel_rfl) ?_
          simp only [List.map_cons, List.map_nil, pick, List.getD_cons_zero, List.getD_cons_succ]
          repeat (go_big_quiet_step (fail))
          refine wpQuiet_nil ?_
          refine flow_two (F := BN D n0) (fun _ _ _ => BN.trans) (fun _ => BN.refl _ _ _) 12 14 (by kernel_rfl) (by decide) (by decide) ?_ ?_ <;> simp only [pick, List.getD_cons_zero, List.getD_cons_succ]
          ·
           skip
           go_wp2_with fail
           refine (next_g w.heap.size D t (G.sz + 1) z76 HS.out.1 (by omega) (by omega)).mono ?_
           rintro e z77 ⟨v2e, rfl, hv2e0, hv2e1, hg⟩
           have HF : Hid (BN D n0 z76 z77) := Lib.hid (BN.but hg.2 HN.out)
           replace HN := Lib.hid (Nat.le_trans HN.out hg.2.size)
           replace HA : Hid (z77.heap[g5]? = some (.cells #[.int .i64 0, .int .i64 0, .int .i64 0] 27 (0, 0))) := Lib.hid ((hg.2.block g5 (Array.getElem?_eq_some_iff.1 HA.out).1 (by omega)).trans HA.out)
           replace HS : Hid ((∃ kd, DiceAt z77 w.heap.size D t kd) ∧ GOwn z77 P G v0 ∧ Below w.heap.size w z77 ∧ z77.heap[g0]? = some (.cells #[.int .i64 G.sz, .slice A n c, .slice B m k] 25 (0, 0))) := Lib.hid ⟨hg.1, HS.out.2.1.but hg.2 HDP.out, HS.out.2.2.1.trans (hg.2.below (by have := HDD.out; omega) HS.out.2.2.1.size), (hg.2.block g0 (Array.getElem?_eq_some_iff.1 HS.out.2.2.2).1 (by omega)).trans HS.out.2.2.2⟩
           clear hg
           go_wp2_with fail
           refine pieceEnd_normal ⟨HF.out, ?_⟩
           clear HF
           refine flow_one (F := BN D n0) (fun _ _ _ => BN.trans) (fun _ => BN.refl _ _ _) 14 (by kernel_rfl) (by decide) ?_
           simp only [pick, List.getD_cons_zero, List.getD_cons_succ]
           go_wp2_with fail
           have hb := one_new z77 (.cells #[.int .i64 1, .int .i64 3, .int .i64 0, .int .i64 4] 3)
           refine pieceEnd_normal ⟨BN.later hb HN.out, ?_⟩
           have HL : Hid ((z77.alloc (.cells #[.int .i64 1, .int .i64 3, .int .i64 0, .int .i64 4] 3)).heap[z77.heap.size]? = some (.cells #[.int .i64 1, .int .i64 3, .int .i64 0, .int .i64 4] 3 (0, 0))) := Lib.hid (heap_alloc_new _ _)
           have hgs : n0 ≤ z77.heap.size := HN.out
           replace HA : Hid ((z77.alloc (.cells #[.int .i64 1, .int .i64 3, .int .i64 0, .int .i64 4] 3)).heap[g5]? = some (.cells #[.int .i64 0, .int .i64 0, .int .i64 0] 27 (0, 0))) := Lib.hid ((hb.block g5 (Array.getElem?_eq_some_iff.1 HA.out).1).trans HA.out)
           replace HS : Hid ((∃ kd, DiceAt (z77.alloc (.cells #[.int .i64 1, .int .i64 3, .int .i64 0, .int .i64 4] 3)) w.heap.size D t kd) ∧ GOwn (z77.alloc (.cells #[.int .i64 1, .int .i64 3, .int .i64 0, .int .i64 4] 3)) P G v0 ∧ Below w.heap.size w (z77.alloc (.cells #[.int .i64 1, .int .i64 3, .int .i64 0, .int .i64 4] 3)) ∧ (z77.alloc (.cells #[.int .i64 1, .int .i64 3, .int .i64 0, .int .i64 4] 3)).heap[g0]? = some (.cells #[.int .i64 G.sz, .slice A n c, .slice B m k] 25 (0, 0))) := Lib.hid ⟨(by obtain ⟨kd, hk⟩ := HS.out.1; exact ⟨kd, hk.later hb⟩), HS.out.2.1.later hb, HS.out.2.2.1.trans (hb.mono HS.out.2.2.1.size), (hb.block g0 (Array.getElem?_eq_some_iff.1 HS.out.2.2.2).1).trans HS.out.2.2.2⟩
           replace HN := Lib.hid (Nat.le_trans HN.out hb.size)
           clear hb
           generalize z77.alloc (.cells #[.int .i64 1, .int .i64 3, .int .i64 0, .int .i64 4] 3) = z78 at *
           generalize z77.heap.size = gs at *
           refine flow_one (F := BN D n0) (fun _ _ _ => BN.trans) (fun _ => BN.refl _ _ _) 15 (by kernel_rfl) (by decide) ?_
           simp only [pick, List.getD_cons_zero, List.getD_cons_succ]
           go_wp2_with fail
           refine (of_g w.heap.size D t (some ⟨gs, 0, none⟩) 4 4 [1, 3, 0, 4] z78 HS.out.1 (row4 HL.out) (fun ad e => by injection e with e; subst e; show gs ≠ D; omega) (by decide) (by decide)).mono ?_
           rintro e z79 ⟨ve, rfl, hve1, hg⟩
           clear hve1
           have HF : Hid (BN D n0 z78 z79) := Lib.hid (BN.but hg.2 HN.out)
           replace HN := Lib.hid (Nat.le_trans HN.out hg.2.size)
           replace HA : Hid (z79.heap[g5]? = some (.cells #[.int .i64 0, .int .i64 0, .int .i64 0] 27 (0, 0))) := Lib.hid ((hg.2.block g5 (Array.getElem?_eq_some_iff.1 HA.out).1 (by omega)).trans HA.out)
           replace HL : Hid (z79.heap[gs]? = some (.cells #[.int .i64 1, .int .i64 3, .int .i64 0, .int .i64 4] 3 (0, 0))) := Lib.hid ((hg.2.block gs (Array.getElem?_eq_some_iff.1 HL.out).1 (by omega)).trans HL.out)
           replace HS : Hid ((∃ kd, DiceAt z79 w.heap.size D t kd) ∧ GOwn z79 P G v0 ∧ Below w.heap.size w z79 ∧ z79.heap[g0]? = some (.cells #[.int .i64 G.sz, .slice A n c, .slice B m k] 25 (0, 0))) := Lib.hid ⟨hg.1, HS.out.2.1.but hg.2 HDP.out, HS.out.2.2.1.trans (hg.2.below (by have := HDD.out; omega) HS.out.2.2.1.size), (hg.2.block g0 (Array.getElem?_eq_some_iff.1 HS.out.2.2.2).1 (by omega)).trans HS.out.2.2.2⟩
           clear hg
           go_wp2_with fail
           refine pieceEnd_normal ⟨HF.out, ?_⟩
           clear HF
           refine flow_val (F := BN D n0) (fun _ => BN.refl _ _ _) (by kernel_rfl) 16 (by kernel_rfl) ?_
           simp only [pick, List.getD_cons_zero, List.getD_cons_succ]
           repeat (go_big_quiet_step (fail))
           refine wpQuiet_nil ?_
           refine flow_one (F := BN D n0) (fun _ _ _ => BN.trans) (fun _ => BN.refl _ _ _) 18 (by kernel_rfl) (by decide) ?_
           simp only [pick, List.getD_cons_zero, List.getD_cons_succ]
           go_wp2_with (refine wpList_store_row rfl 27 (.tmp 7) (.tmp 39) rfl g5 #[.int .i64 (v0e - v1e), .int .i64 v2e, .int .i64 ve] rfl rfl 27 _ HA.out (Edg.info ⟨v0e - v1e, v2e, ve⟩) rfl (by simp [Value.oneCell']) ?_)
           refine pieceEnd_normal ⟨BN.row _ _ hg5, ?_⟩
           have HA5 := Lib.hid (setRow_heap z79 g5 _ #[.int .i64 (v0e - v1e), .int .i64 v2e, .int .i64 ve] _ _ HA.out)
           have HGO : Hid (g0 ≠ g5) := Lib.hid (by omega)
           have HOW : Hid (GOwn (z79.setRow g5 #[.int .i64 (v0e - v1e), .int .i64 v2e, .int .i64 ve]) P G v0) := Lib.hid (by
            obtain ⟨e, gv, he, h1, h2⟩ := HS.out.2.1
            exact ⟨e, gv, he, own_keepL h1 fun q hq => setRow_other z79 g5 q #[.int .i64 (v0e - v1e), .int .i64 v2e, .int .i64 ve] (HOB.out e gv he q (.inl hq) hg5), own_keepL h2 fun q hq => setRow_other z79 g5 q #[.int .i64 (v0e - v1e), .int .i64 v2e, .int .i64 ve] (HOB.out e gv he q (.inr hq) hg5)⟩)
           have HBS : Hid (Below w.heap.size z79 (z79.setRow g5 #[.int .i64 (v0e - v1e), .int .i64 v2e, .int .i64 ve])) := Lib.hid (below_setRow (Below.refl _ _) (by have := HS.out.2.2.1.size; have h8 := HWG.out; omega) #[.int .i64 (v0e - v1e), .int .i64 v2e, .int .i64 ve])
           refine flow_done (by kernel_rfl) ?_
           go_wp2_with fail
           go_meet
           exact ⟨g5, ⟨v0e - v1e, v2e, ve⟩, rfl, Lib.hid ⟨(by obtain ⟨kd, hk⟩ := HS.out.1; exact ⟨kd, hk.below (below_setRow (Below.refl _ _) (Nat.le_refl g5) #[.int .i64 (v0e - v1e), .int .i64 v2e, .int .i64 ve]) (by omega)⟩), HOW.out, HS.out.2.2.1.trans HBS.out, (setRow_other z79 g5 g0 #[.int .i64 (v0e - v1e), .int .i64 v2e, .int .i64 ve] HGO.out).trans HS.out.2.2.2, HA5.out, by omega⟩⟩
          ·
           skip
           go_wp2_with fail
           have hb := one_new z76 (.cells #[.int .i64 1, .int .i64 3, .int .i64 0, .int .i64 4] 3)
           refine pieceEnd_normal ⟨BN.later hb HN.out, ?_⟩
           have HL : Hid ((z76.alloc (.cells #[.int .i64 1, .int .i64 3, .int .i64 0, .int .i64 4] 3)).heap[z76.heap.size]? = some (.cells #[.int .i64 1, .int .i64 3, .int .i64 0, .int .i64 4] 3 (0, 0))) := Lib.hid (heap_alloc_new _ _)
           have hgs : n0 ≤ z76.heap.size := HN.out
           replace HA : Hid ((z76.alloc (.cells #[.int .i64 1, .int .i64 3, .int .i64 0, .int .i64 4] 3)).heap[g5]? = some (.cells #[.int .i64 0, .int .i64 0, .int .i64 0] 27 (0, 0))) := Lib.hid ((hb.block g5 (Array.getElem?_eq_some_iff.1 HA.out).1).trans HA.out)
           replace HS : Hid ((∃ kd, DiceAt (z76.alloc (.cells #[.int .i64 1, .int .i64 3, .int .i64 0, .int .i64 4] 3)) w.heap.size D t kd) ∧ GOwn (z76.alloc (.cells #[.int .i64 1, .int .i64 3, .int .i64 0, .int .i64 4] 3)) P G v0 ∧ Below w.heap.size w (z76.alloc (.cells #[.int .i64 1, .int .i64 3, .int .i64 0, .int .i64 4] 3)) ∧ (z76.alloc (.cells #[.int .i64 1, .int .i64 3, .int .i64 0, .int .i64 4] 3)).heap[g0]? = some (.cells #[.int .i64 G.sz, .slice A n c, .slice B m k] 25 (0, 0))) := Lib.hid ⟨(by obtain ⟨kd, hk⟩ := HS.out.1; exact ⟨kd, hk.later hb⟩), HS.out.2.1.later hb, HS.out.2.2.1.trans (hb.mono HS.out.2.2.1.size), (hb.block g0 (Array.getElem?_eq_some_iff.1 HS.out.2.2.2).1).trans HS.out.2.2.2⟩
           replace HN := Lib.hid (Nat.le_trans HN.out hb.size)
           clear hb
           generalize z76.alloc (.cells #[.int .i64 1, .int .i64 3, .int .i64 0, .int .i64 4] 3) = z80 at *
           generalize z76.heap.size = gs at *
           refine flow_one (F := BN D n0) (fun _ _ _ => BN.trans) (fun _ => BN.refl _ _ _) 12 (by kernel_rfl) (by decide) ?_
           simp only [pick, List.getD_cons_zero, List.getD_cons_succ]
           go_wp2_with fail
           refine (next_g w.heap.size D t (G.sz + 1) z80 HS.out.1 (by omega) (by omega)).mono ?_
           rintro e z81 ⟨v2e, rfl, hv2e0, hv2e1, hg⟩
           have HF : Hid (BN D n0 z80 z81) := Lib.hid (BN.but hg.2 HN.out)
           replace HN := Lib.hid (Nat.le_trans HN.out hg.2.size)
           replace HA : Hid (z81.heap[g5]? = some (.cells #[.int .i64 0, .int .i64 0, .int .i64 0] 27 (0, 0))) := Lib.hid ((hg.2.block g5 (Array.getElem?_eq_some_iff.1 HA.out).1 (by omega)).trans HA.out)
           replace HL : Hid (z81.heap[gs]? = some (.cells #[.int .i64 1, .int .i64 3, .int .i64 0, .int .i64 4] 3 (0, 0))) := Lib.hid ((hg.2.block gs (Array.getElem?_eq_some_iff.1 HL.out).1 (by omega)).trans HL.out)
           replace HS : Hid ((∃ kd, DiceAt z81 w.heap.size D t kd) ∧ GOwn z81 P G v0 ∧ Below w.heap.size w z81 ∧ z81.heap[g0]? = some (.cells #[.int .i64 G.sz, .slice A n c, .slice B m k] 25 (0, 0))) := Lib.hid ⟨hg.1, HS.out.2.1.but hg.2 HDP.out, HS.out.2.2.1.trans (hg.2.below (by have := HDD.out; omega) HS.out.2.2.1.size), (hg.2.block g0 (Array.getElem?_eq_some_iff.1 HS.out.2.2.2).1 (by omega)).trans HS.out.2.2.2⟩
           clear hg
           go_wp2_with fail
           refine pieceEnd_normal ⟨HF.out, ?_⟩
           clear HF
           refine flow_one (F := BN D n0) (fun _ _ _ => BN.trans) (fun _ => BN.refl _ _ _) 15 (by kernel_rfl) (by decide) ?_
           simp only [pick, List.getD_cons_zero, List.getD_cons_succ]
           go_wp2_with fail
           refine (of_g w.heap.size D t (some ⟨gs, 0, none⟩) 4 4 [1, 3, 0, 4] z81 HS.out.1 (row4 HL.out) (fun ad e => by injection e with e; subst e; show gs ≠ D; omega) (by decide) (by decide)).mono ?_
           rintro e z82 ⟨ve, rfl, hve1, hg⟩
           clear hve1
           have HF : Hid (BN D n0 z81 z82) := Lib.hid (BN.but hg.2 HN.out)
           replace HN := Lib.hid (Nat.le_trans HN.out hg.2.size)
           replace HA : Hid (z82.heap[g5]? = some (.cells #[.int .i64 0, .int .i64 0, .int .i64 0] 27 (0, 0))) := Lib.hid ((hg.2.block g5 (Array.getElem?_eq_some_iff.1 HA.out).1 (by omega)).trans HA.out)
           replace HL : Hid (z82.heap[gs]? = some (.cells #[.int .i64 1, .int .i64 3, .int .i64 0, .int .i64 4] 3 (0, 0))) := Lib.hid ((hg.2.block gs (Array.getElem?_eq_some_iff.1 HL.out).1 (by omega)).trans HL.out)
           replace HS : Hid ((∃ kd, DiceAt z82 w.heap.size D t kd) ∧ GOwn z82 P G v0 ∧ Below w.heap.size w z82 ∧ z82.heap[g0]? = some (.cells #[.int .i64 G.sz, .slice A n c, .slice B m k] 25 (0, 0))) := Lib.hid ⟨hg.1, HS.out.2.1.but hg.2 HDP.out, HS.out.2.2.1.trans (hg.2.below (by have := HDD.out; omega) HS.out.2.2.1.size), (hg.2.block g0 (Array.getElem?_eq_some_iff.1 HS.out.2.2.2).1 (by omega)).trans HS.out.2.2.2⟩
           clear hg
           go_wp2_with fail
           refine pieceEnd_normal ⟨HF.out, ?_⟩
           clear HF
           refine flow_val (F := BN D n0) (fun _ => BN.refl _ _ _) (by kernel_rfl) 16 (by kernel_rfl) ?_
           simp only [pick, List.getD_cons_zero, List.getD_cons_succ]
           repeat (go_big_quiet_step (fail))
           refine wpQuiet_nil ?_
           refine flow_one (F := BN D n0) (fun _ _ _ => BN.trans) (fun _ => BN.refl _ _ _) 18 (by kernel_rfl) (by decide) ?_
           simp only [pick, List.getD_cons_zero, List.getD_cons_succ]
           go_wp2_with (refine wpList_store_row rfl 27 (.tmp 7) (.tmp 39) rfl g5 #[.int .i64 (v0e - v1e), .int .i64 v2e, .int .i64 ve] rfl rfl 27 _ HA.out (Edg.info ⟨v0e - v1e, v2e, ve⟩) rfl (by simp [Value.oneCell']) ?_)
           refine pieceEnd_normal ⟨BN.row _ _ hg5, ?_⟩
           have HA5 := Lib.hid (setRow_heap z82 g5 _ #[.int .i64 (v0e - v1e), .int .i64 v2e, .int .i64 ve] _ _ HA.out)
           have HGO : Hid (g0 ≠ g5) := Lib.hid (by omega)
           have HOW : Hid (GOwn (z82.setRow g5 #[.int .i64 (v0e - v1e), .int .i64 v2e, .int .i64 ve]) P G v0) := Lib.hid (by
            obtain ⟨e, gv, he, h1, h2⟩ := HS.out.2.1
            exact ⟨e, gv, he, own_keepL h1 fun q hq => setRow_other z82 g5 q #[.int .i64 (v0e - v1e), .int .i64 v2e, .int .i64 ve] (HOB.out e gv he q (.inl hq) hg5), own_keepL h2 fun q hq => setRow_other z82 g5 q #[.int .i64 (v0e - v1e), .int .i64 v2e, .int .i64 ve] (HOB.out e gv he q (.inr hq) hg5)⟩)
           have HBS : Hid (Below w.heap.size z82 (z82.setRow g5 #[.int .i64 (v0e - v1e), .int .i64 v2e, .int .i64 ve])) := Lib.hid (below_setRow (Below.refl _ _) (by have := HS.out.2.2.1.size; have h8 := HWG.out; omega) #[.int .i64 (v0e - v1e), .int .i64 v2e, .int .i64 ve])
           refine flow_done (by kernel_rfl) ?_
           go_wp2_with fail
           go_meet
           exact ⟨g5, ⟨v0e - v1e, v2e, ve⟩, rfl, Lib.hid ⟨(by obtain ⟨kd, hk⟩ := HS.out.1; exact ⟨kd, hk.below (below_setRow (Below.refl _ _) (Nat.le_refl g5) #[.int .i64 (v0e - v1e), .int .i64 v2e, .int .i64 ve]) (by omega)⟩), HOW.out, HS.out.2.2.1.trans HBS.out, (setRow_other z82 g5 g0 #[.int .i64 (v0e - v1e), .int .i64 v2e, .int .i64 ve] HGO.out).trans HS.out.2.2.2, HA5.out, by omega⟩⟩
        ·
         as_aux_lemma =>
          go_wp2_with fail
          have hb := one_new z75 (.cells #[.int .i64 1, .int .i64 3, .int .i64 0, .int .i64 4] 3)
          refine pieceEnd_normal ⟨BN.later hb HN.out, ?_⟩
          have HL : Hid ((z75.alloc (.cells #[.int .i64 1, .int .i64 3, .int .i64 0, .int .i64 4] 3)).heap[z75.heap.size]? = some (.cells #[.int .i64 1, .int .i64 3, .int .i64 0, .int .i64 4] 3 (0, 0))) := Lib.hid (heap_alloc_new _ _)
          have hgs : n0 ≤ z75.heap.size := HN.out
          replace HA : Hid ((z75.alloc (.cells #[.int .i64 1, .int .i64 3, .int .i64 0, .int .i64 4] 3)).heap[g5]? = some (.cells #[.int .i64 0, .int .i64 0, .int .i64 0] 27 (0, 0))) := Lib.hid ((hb.block g5 (Array.getElem?_eq_some_iff.1 HA.out).1).trans HA.out)
          replace HS : Hid ((∃ kd, DiceAt (z75.alloc (.cells #[.int .i64 1, .int .i64 3, .int .i64 0, .int .i64 4] 3)) w.heap.size D t kd) ∧ GOwn (z75.alloc (.cells #[.int .i64 1, .int .i64 3, .int .i64 0, .int .i64 4] 3)) P G v0 ∧ Below w.heap.size w (z75.alloc (.cells #[.int .i64 1, .int .i64 3, .int .i64 0, .int .i64 4] 3)) ∧ (z75.alloc (.cells #[.int .i64 1, .int .i64 3, .int .i64 0, .int .i64 4] 3)).heap[g0]? = some (.cells #[.int .i64 G.sz, .slice A n c, .slice B m k] 25 (0, 0))) := Lib.hid ⟨(by obtain ⟨kd, hk⟩ := HS.out.1; exact ⟨kd, hk.later hb⟩), HS.out.2.1.later hb, HS.out.2.2.1.trans (hb.mono HS.out.2.2.1.size), (hb.block g0 (Array.getElem?_eq_some_iff.1 HS.out.2.2.2).1).trans HS.out.2.2.2⟩
          replace HN := Lib.hid (Nat.le_trans HN.out hb.size)
          clear hb
          generalize z75.alloc (.cells #[.int .i64 1, .int .i64 3, .int .i64 0, .int .i64 4] 3) = z83 at *
          generalize z75.heap.size = gs at *
          refine flow_one (F := BN D n0) (fun _ _ _ => BN.trans) (fun _ => BN.refl _ _ _) 6 (by kernel_rfl) (by decide) ?_
          simp only [pick, List.getD_cons_zero, List.getD_cons_succ]
          go_wp2_with fail
          refine (next_g w.heap.size D t 2 z83 HS.out.1 (by omega) (by omega)).mono ?_
          rintro e z84 ⟨v1e, rfl, hv1e0, hv1e1, hg⟩
          have HF : Hid (BN D n0 z83 z84) := Lib.hid (BN.but hg.2 HN.out)
          replace HN := Lib.hid (Nat.le_trans HN.out hg.2.size)
          replace HA : Hid (z84.heap[g5]? = some (.cells #[.int .i64 0, .int .i64 0, .int .i64 0] 27 (0, 0))) := Lib.hid ((hg.2.block g5 (Array.getElem?_eq_some_iff.1 HA.out).1 (by omega)).trans HA.out)
          replace HL : Hid (z84.heap[gs]? = some (.cells #[.int .i64 1, .int .i64 3, .int .i64 0, .int .i64 4] 3 (0, 0))) := Lib.hid ((hg.2.block gs (Array.getElem?_eq_some_iff.1 HL.out).1 (by omega)).trans HL.out)
          replace HS : Hid ((∃ kd, DiceAt z84 w.heap.size D t kd) ∧ GOwn z84 P G v0 ∧ Below w.heap.size w z84 ∧ z84.heap[g0]? = some (.cells #[.int .i64 G.sz, .slice A n c, .slice B m k] 25 (0, 0))) := Lib.hid ⟨hg.1, HS.out.2.1.but hg.2 HDP.out, HS.out.2.2.1.trans (hg.2.below (by have := HDD.out; omega) HS.out.2.2.1.size), (hg.2.block g0 (Array.getElem?_eq_some_iff.1 HS.out.2.2.2).1 (by omega)).trans HS.out.2.2.2⟩
          clear hg
          go_wp2_with fail
          refine pieceEnd_normal ⟨HF.out, ?_⟩
          clear HF
          refine flow_reads (F := BN D n0) (fun _ => BN.refl _ _ _) (by kernel_rfl) [7] (fuel := 4) (by kernel_rfl) ?_
          simp only [List.map_cons, List.map_nil, pick, List.getD_cons_zero, List.getD_cons_succ]
          repeat (go_big_quiet_step (fail))
          refine wpQuiet_nil ?_
          refine flow_one (F := BN D n0) (fun _ _ _ => BN.trans) (fun _ => BN.refl _ _ _) 12 (by kernel_rfl) (by decide) ?_
          simp only [pick, List.getD_cons_zero, List.getD_cons_succ]
          go_wp2_with fail
          refine (next_g w.heap.size D t (G.sz + 1) z84 HS.out.1 (by omega) (by omega)).mono ?_
          rintro e z85 ⟨v2e, rfl, hv2e0, hv2e1, hg⟩
          have HF : Hid (BN D n0 z84 z85) := Lib.hid (BN.but hg.2 HN.out)
          replace HN := Lib.hid (Nat.le_trans HN.out hg.2.size)
          replace HA : Hid (z85.heap[g5]? = some (.cells #[.int .i64 0, .int .i64 0, .int .i64 0] 27 (0, 0))) := Lib.hid ((hg.2.block g5 (Array.getElem?_eq_some_iff.1 HA.out).1 (by omega)).trans HA.out)
          replace HL : Hid (z85.heap[gs]? = some (.cells #[.int .i64 1, .int .i64 3, .int .i64 0, .int .i64 4] 3 (0, 0))) := Lib.hid ((hg.2.block gs (Array.getElem?_eq_some_iff.1 HL.out).1 (by omega)).trans HL.out)
          replace HS : Hid ((∃ kd, DiceAt z85 w.heap.size D t kd) ∧ GOwn z85 P G v0 ∧ Below w.heap.size w z85 ∧ z85.heap[g0]? = some (.cells #[.int .i64 G.sz, .slice A n c, .slice B m k] 25 (0, 0))) := Lib.hid ⟨hg.1, HS.out.2.1.but hg.2 HDP.out, HS.out.2.2.1.trans (hg.2.below (by have := HDD.out; omega) HS.out.2.2.1.size), (hg.2.block g0 (Array.getElem?_eq_some_iff.1 HS.out.2.2.2).1 (by omega)).trans HS.out.2.2.2⟩
          clear hg
          go_wp2_with fail
          refine pieceEnd_normal ⟨HF.out, ?_⟩
          clear HF
          refine flow_one (F := BN D n0) (fun _ _ _ => BN.trans) (fun _ => BN.refl _ _ _) 15 (by kernel_rfl) (by decide) ?_
          simp only [pick, List.getD_cons_zero, List.getD_cons_succ]
          go_wp2_with fail
          refine (of_g w.heap.size D t (some ⟨gs, 0, none⟩) 4 4 [1, 3, 0, 4] z85 HS.out.1 (row4 HL.out) (fun ad e => by injection e with e; subst e; show gs ≠ D; omega) (by decide) (by decide)).mono ?_
          rintro e z86 ⟨ve, rfl, hve1, hg⟩
          clear hve1
          have HF : Hid (BN D n0 z85 z86) := Lib.hid (BN.but hg.2 HN.out)
          replace HN := Lib.hid (Nat.le_trans HN.out hg.2.size)
          replace HA : Hid (z86.heap[g5]? = some (.cells #[.int .i64 0, .int .i64 0, .int .i64 0] 27 (0, 0))) := Lib.hid ((hg.2.block g5 (Array.getElem?_eq_some_iff.1 HA.out).1 (by omega)).trans HA.out)
          replace HL : Hid (z86.heap[gs]? = some (.cells #[.int .i64 1, .int .i64 3, .int .i64 0, .int .i64 4] 3 (0, 0))) := Lib.hid ((hg.2.block gs (Array.getElem?_eq_some_iff.1 HL.out).1 (by omega)).trans HL.out)
          replace HS : Hid ((∃ kd, DiceAt z86 w.heap.size D t kd) ∧ GOwn z86 P G v0 ∧ Below w.heap.size w z86 ∧ z86.heap[g0]? = some (.cells #[.int .i64 G.sz, .slice A n c, .slice B m k] 25 (0, 0))) := Lib.hid ⟨hg.1, HS.out.2.1.but hg.2 HDP.out, HS.out.2.2.1.trans (hg.2.below (by have := HDD.out; omega) HS.out.2.2.1.size), (hg.2.block g0 (Array.getElem?_eq_some_iff.1 HS.out.2.2.2).1 (by omega)).trans HS.out.2.2.2⟩
          clear hg
          go_wp2_with fail
          refine pieceEnd_normal ⟨HF.out, ?_⟩
          clear HF
          refine flow_val (F := BN D n0) (fun _ => BN.refl _ _ _) (by kernel_rfl) 16 (by kernel_rfl) ?_
          simp only [pick, List.getD_cons_zero, List.getD_cons_succ]
          repeat (go_big_quiet_step (fail))
          refine wpQuiet_nil ?_
          refine flow_one (F := BN D n0) (fun _ _ _ => BN.trans) (fun _ => BN.refl _ _ _) 18 (by kernel_rfl) (by decide) ?_
          simp only [pick, List.getD_cons_zero, List.getD_cons_succ]
          go_wp2_with (refine wpList_store_row rfl 27 (.tmp 7) (.tmp 39) rfl g5 #[.int .i64 (v0e - v1e), .int .i64 v2e, .int .i64 ve] rfl rfl 27 _ HA.out (Edg.info ⟨v0e - v1e, v2e, ve⟩) rfl (by simp [Value.oneCell']) ?_)
          refine pieceEnd_normal ⟨BN.row _ _ hg5, ?_⟩
          have HA5 := Lib.hid (setRow_heap z86 g5 _ #[.int .i64 (v0e - v1e), .int .i64 v2e, .int .i64 ve] _ _ HA.out)
          have HGO : Hid (g0 ≠ g5) := Lib.hid (by omega)
          have HOW : Hid (GOwn (z86.setRow g5 #[.int .i64 (v0e - v1e), .int .i64 v2e, .int .i64 ve]) P G v0) := Lib.hid (by
           obtain ⟨e, gv, he, h1, h2⟩ := HS.out.2.1
           exact ⟨e, gv, he, own_keepL h1 fun q hq => setRow_other z86 g5 q #[.int .i64 (v0e - v1e), .int .i64 v2e, .int .i64 ve] (HOB.out e gv he q (.inl hq) hg5), own_keepL h2 fun q hq => setRow_other z86 g5 q #[.int .i64 (v0e - v1e), .int .i64 v2e, .int .i64 ve] (HOB.out e gv he q (.inr hq) hg5)⟩)
          have HBS : Hid (Below w.heap.size z86 (z86.setRow g5 #[.int .i64 (v0e - v1e), .int .i64 v2e, .int .i64 ve])) := Lib.hid (below_setRow (Below.refl _ _) (by have := HS.out.2.2.1.size; have h8 := HWG.out; omega) #[.int .i64 (v0e - v1e), .int .i64 v2e, .int .i64 ve])
          refine flow_done (by kernel_rfl) ?_
          go_wp2_with fail
          go_meet
          exact ⟨g5, ⟨v0e - v1e, v2e, ve⟩, rfl, Lib.hid ⟨(by obtain ⟨kd, hk⟩ := HS.out.1; exact ⟨kd, hk.below (below_setRow (Below.refl _ _) (Nat.le_refl g5) #[.int .i64 (v0e - v1e), .int .i64 v2e, .int .i64 ve]) (by omega)⟩), HOW.out, HS.out.2.2.1.trans HBS.out, (setRow_other z86 g5 g0 #[.int .i64 (v0e - v1e), .int .i64 v2e, .int .i64 ve] HGO.out).trans HS.out.2.2.2, HA5.out, by omega⟩⟩
      ·
       as_aux_lemma =>
        go_wp2_with fail
        have hb := one_new z74 (.cells #[.int .i64 1, .int .i64 3, .int .i64 0, .int .i64 4] 3)
        refine pieceEnd_normal ⟨BN.later hb HN.out, ?_⟩
        have HL : Hid ((z74.alloc (.cells #[.int .i64 1, .int .i64 3, .int .i64 0, .int .i64 4] 3)).heap[z74.heap.size]? = some (.cells #[.int .i64 1, .int .i64 3, .int .i64 0, .int .i64 4] 3 (0, 0))) := Lib.hid (heap_alloc_new _ _)
        have hgs : n0 ≤ z74.heap.size := HN.out
        replace HA : Hid ((z74.alloc (.cells #[.int .i64 1, .int .i64 3, .int .i64 0, .int .i64 4] 3)).heap[g5]? = some (.cells #[.int .i64 0, .int .i64 0, .int .i64 0] 27 (0, 0))) := Lib.hid ((hb.block g5 (Array.getElem?_eq_some_iff.1 HA.out).1).trans HA.out)
        replace HS : Hid ((∃ kd, DiceAt (z74.alloc (.cells #[.int .i64 1, .int .i64 3, .int .i64 0, .int .i64 4] 3)) w.heap.size D t kd) ∧ GOwn (z74.alloc (.cells #[.int .i64 1, .int .i64 3, .int .i64 0, .int .i64 4] 3)) P G v0 ∧ Below w.heap.size w (z74.alloc (.cells #[.int .i64 1, .int .i64 3, .int .i64 0, .int .i64 4] 3)) ∧ (z74.alloc (.cells #[.int .i64 1, .int .i64 3, .int .i64 0, .int .i64 4] 3)).heap[g0]? = some (.cells #[.int .i64 G.sz, .slice A n c, .slice B m k] 25 (0, 0))) := Lib.hid ⟨(by obtain ⟨kd, hk⟩ := HS.out.1; exact ⟨kd, hk.later hb⟩), HS.out.2.1.later hb, HS.out.2.2.1.trans (hb.mono HS.out.2.2.1.size), (hb.block g0 (Array.getElem?_eq_some_iff.1 HS.out.2.2.2).1).trans HS.out.2.2.2⟩
        replace HN := Lib.hid (Nat.le_trans HN.out hb.size)
        clear hb
        generalize z74.alloc (.cells #[.int .i64 1, .int .i64 3, .int .i64 0, .int .i64 4] 3) = z87 at *
        generalize z74.heap.size = gs at *
        refine flow_one (F := BN D n0) (fun _ _ _ => BN.trans) (fun _ => BN.refl _ _ _) 4 (by kernel_rfl) (by decide) ?_
        simp only [pick, List.getD_cons_zero, List.getD_cons_succ]
        go_wp2_with fail
        refine (next_g w.heap.size D t (G.sz + 1) z87 HS.out.1 (by omega) (by omega)).mono ?_
        rintro e z88 ⟨v0e, rfl, hv0e0, hv0e1, hg⟩
        have HF : Hid (BN D n0 z87 z88) := Lib.hid (BN.but hg.2 HN.out)
        replace HN := Lib.hid (Nat.le_trans HN.out hg.2.size)
        replace HA : Hid (z88.heap[g5]? = some (.cells #[.int .i64 0, .int .i64 0, .int .i64 0] 27 (0, 0))) := Lib.hid ((hg.2.block g5 (Array.getElem?_eq_some_iff.1 HA.out).1 (by omega)).trans HA.out)
        replace HL : Hid (z88.heap[gs]? = some (.cells #[.int .i64 1, .int .i64 3, .int .i64 0, .int .i64 4] 3 (0, 0))) := Lib.hid ((hg.2.block gs (Array.getElem?_eq_some_iff.1 HL.out).1 (by omega)).trans HL.out)
        replace HS : Hid ((∃ kd, DiceAt z88 w.heap.size D t kd) ∧ GOwn z88 P G v0 ∧ Below w.heap.size w z88 ∧ z88.heap[g0]? = some (.cells #[.int .i64 G.sz, .slice A n c, .slice B m k] 25 (0, 0))) := Lib.hid ⟨hg.1, HS.out.2.1.but hg.2 HDP.out, HS.out.2.2.1.trans (hg.2.below (by have := HDD.out; omega) HS.out.2.2.1.size), (hg.2.block g0 (Array.getElem?_eq_some_iff.1 HS.out.2.2.2).1 (by omega)).trans HS.out.2.2.2⟩
        clear hg
        go_wp2_with fail
        refine pieceEnd_normal ⟨HF.out, ?_⟩
        clear HF
        refine flow_one (F := BN D n0) (fun _ _ _ => BN.trans) (fun _ => BN.refl _ _ _) 6 (by kernel_rfl) (by decide) ?_
        simp only [pick, List.getD_cons_zero, List.getD_cons_succ]
        go_wp2_with fail
        refine (next_g w.heap.size D t 2 z88 HS.out.1 (by omega) (by omega)).mono ?_
        rintro e z89 ⟨v1e, rfl, hv1e0, hv1e1, hg⟩
        have HF : Hid (BN D n0 z88 z89) := Lib.hid (BN.but hg.2 HN.out)
        replace HN := Lib.hid (Nat.le_trans HN.out hg.2.size)
        replace HA : Hid (z89.heap[g5]? = some (.cells #[.int .i64 0, .int .i64 0, .int .i64 0] 27 (0, 0))) := Lib.hid ((hg.2.block g5 (Array.getElem?_eq_some_iff.1 HA.out).1 (by omega)).trans HA.out)
        replace HL : Hid (z89.heap[gs]? = some (.cells #[.int .i64 1, .int .i64 3, .int .i64 0, .int .i64 4] 3 (0, 0))) := Lib.hid ((hg.2.block gs (Array.getElem?_eq_some_iff.1 HL.out).1 (by omega)).trans HL.out)
        replace HS : Hid ((∃ kd, DiceAt z89 w.heap.size D t kd) ∧ GOwn z89 P G v0 ∧ Below w.heap.size w z89 ∧ z89.heap[g0]? = some (.cells #[.int .i64 G.sz, .slice A n c, .slice B m k] 25 (0, 0))) := Lib.hid ⟨hg.1, HS.out.2.1.but hg.2 HDP.out, HS.out.2.2.1.trans (hg.2.below (by have := HDD.out; omega) HS.out.2.2.1.size), (hg.2.block g0 (Array.getElem?_eq_some_iff.1 HS.out.2.2.2).1 (by omega)).trans HS.out.2.2.2⟩
        clear hg
        go_wp2_with fail
        refine pieceEnd_normal ⟨HF.out, ?_⟩
        clear HF
        refine flow_reads (F := BN D n0) (fun _ => BN.refl _ _ _) (by kernel_rfl) [7] (fuel := 4) (by kernel_rfl) ?_
        simp only [List.map_cons, List.map_nil, pick, List.getD_cons_zero, List.getD_cons_succ]
        repeat (go_big_quiet_step (fail))
        refine wpQuiet_nil ?_
        refine flow_one (F := BN D n0) (fun _ _ _ => BN.trans) (fun _ => BN.refl _ _ _) 12 (by kernel_rfl) (by decide) ?_
        simp only [pick, List.getD_cons_zero, List.getD_cons_succ]
        go_wp2_with fail
        refine (next_g w.heap.size D t (G.sz + 1) z89 HS.out.1 (by omega) (by omega)).mono ?_
        rintro e z90 ⟨v2e, rfl, hv2e0, hv2e1, hg⟩
        have HF : Hid (BN D n0 z89 z90) := Lib.hid (BN.but hg.2 HN.out)
        replace HN := Lib.hid (Nat.le_trans HN.out hg.2.size)
        replace HA : Hid (z90.heap[g5]? = some (.cells #[.int .i64 0, .int .i64 0, .int .i64 0] 27 (0, 0))) := Lib.hid ((hg.2.block g5 (Array.getElem?_eq_some_iff.1 HA.out).1 (by omega)).trans HA.out)
        replace HL : Hid (z90.heap[gs]? = some (.cells #[.int .i64 1, .int .i64 3, .int .i64 0, .int .i64 4] 3 (0, 0))) := Lib.hid ((hg.2.block gs (Array.getElem?_eq_some_iff.1 HL.out).1 (by omega)).trans HL.out)
        replace HS : Hid ((∃ kd, DiceAt z90 w.heap.size D t kd) ∧ GOwn z90 P G v0 ∧ Below w.heap.size w z90 ∧ z90.heap[g0]? = some (.cells #[.int .i64 G.sz, .slice A n c, .slice B m k] 25 (0, 0))) := Lib.hid ⟨hg.1, HS.out.2.1.but hg.2 HDP.out, HS.out.2.2.1.trans (hg.2.below (by have := HDD.out; omega) HS.out.2.2.1.size), (hg.2.block g0 (Array.getElem?_eq_some_iff.1 HS.out.2.2.2).1 (by omega)).trans HS.out.2.2.2⟩
        clear hg
        go_wp2_with fail
        refine pieceEnd_normal ⟨HF.out, ?_⟩
        clear HF
        refine flow_one (F := BN D n0) (fun _ _ _ => BN.trans) (fun _ => BN.refl _ _ _) 15 (by kernel_rfl) (by decide) ?_
        simp only [pick, List.getD_cons_zero, List.getD_cons_succ]
        go_wp2_with fail
        refine (of_g w.heap.size D t (some ⟨gs, 0, none⟩) 4 4 [1, 3, 0, 4] z90 HS.out.1 (row4 HL.out) (fun ad e => by injection e with e; subst e; show gs ≠ D; omega) (by decide) (by decide)).mono ?_
        rintro e z91 ⟨ve, rfl, hve1, hg⟩
        clear hve1
        have HF : Hid (BN D n0 z90 z91) := Lib.hid (BN.but hg.2 HN.out)
        replace HN := Lib.hid (Nat.le_trans HN.out hg.2.size)
        replace HA : Hid (z91.heap[g5]? = some (.cells #[.int .i64 0, .int .i64 0, .int .i64 0] 27 (0, 0))) := Lib.hid ((hg.2.block g5 (Array.getElem?_eq_some_iff.1 HA.out).1 (by omega)).trans HA.out)
        replace HL : Hid (z91.heap[gs]? = some (.cells #[.int .i64 1, .int .i64 3, .int .i64 0, .int .i64 4] 3 (0, 0))) := Lib.hid ((hg.2.block gs (Array.getElem?_eq_some_iff.1 HL.out).1 (by omega)).trans HL.out)
        replace HS : Hid ((∃ kd, DiceAt z91 w.heap.size D t kd) ∧ GOwn z91 P G v0 ∧ Below w.heap.size w z91 ∧ z91.heap[g0]? = some (.cells #[.int .i64 G.sz, .slice A n c, .slice B m k] 25 (0, 0))) := Lib.hid ⟨hg.1, HS.out.2.1.but hg.2 HDP.out, HS.out.2.2.1.trans (hg.2.below (by have := HDD.out; omega) HS.out.2.2.1.size), (hg.2.block g0 (Array.getElem?_eq_some_iff.1 HS.out.2.2.2).1 (by omega)).trans HS.out.2.2.2⟩
        clear hg
        go_wp2_with fail
        refine pieceEnd_normal ⟨HF.out, ?_⟩
        clear HF
        refine flow_val (F := BN D n0) (fun _ => BN.refl _ _ _) (by kernel_rfl) 16 (by kernel_rfl) ?_
        simp only [pick, List.getD_cons_zero, List.getD_cons_succ]
        repeat (go_big_quiet_step (fail))
        refine wpQuiet_nil ?_
        refine flow_one (F := BN D n0) (fun _ _ _ => BN.trans) (fun _ => BN.refl _ _ _) 18 (by kernel_rfl) (by decide) ?_
        simp only [pick, List.getD_cons_zero, List.getD_cons_succ]
        go_wp2_with (refine wpList_store_row rfl 27 (.tmp 7) (.tmp 39) rfl g5 #[.int .i64 (v0e - v1e), .int .i64 v2e, .int .i64 ve] rfl rfl 27 _ HA.out (Edg.info ⟨v0e - v1e, v2e, ve⟩) rfl (by simp [Value.oneCell']) ?_)
        refine pieceEnd_normal ⟨BN.row _ _ hg5, ?_⟩
        have HA5 := Lib.hid (setRow_heap z91 g5 _ #[.int .i64 (v0e - v1e), .int .i64 v2e, .int .i64 ve] _ _ HA.out)
        have HGO : Hid (g0 ≠ g5) := Lib.hid (by omega)
        have HOW : Hid (GOwn (z91.setRow g5 #[.int .i64 (v0e - v1e), .int .i64 v2e, .int .i64 ve]) P G v0) := Lib.hid (by
         obtain ⟨e, gv, he, h1, h2⟩ := HS.out.2.1
         exact ⟨e, gv, he, own_keepL h1 fun q hq => setRow_other z91 g5 q #[.int .i64 (v0e - v1e), .int .i64 v2e, .int .i64 ve] (HOB.out e gv he q (.inl hq) hg5), own_keepL h2 fun q hq => setRow_other z91 g5 q #[.int .i64 (v0e - v1e), .int .i64 v2e, .int .i64 ve] (HOB.out e gv he q (.inr hq) hg5)⟩)
        have HBS : Hid (Below w.heap.size z91 (z91.setRow g5 #[.int .i64 (v0e - v1e), .int .i64 v2e, .int .i64 ve])) := Lib.hid (below_setRow (Below.refl _ _) (by have := HS.out.2.2.1.size; have h8 := HWG.out; omega) #[.int .i64 (v0e - v1e), .int .i64 v2e, .int .i64 ve])
        refine flow_done (by kernel_rfl) ?_
        go_wp2_with fail
        go_meet
        exact ⟨g5, ⟨v0e - v1e, v2e, ve⟩, rfl, Lib.hid ⟨(by obtain ⟨kd, hk⟩ := HS.out.1; exact ⟨kd, hk.below (below_setRow (Below.refl _ _) (Nat.le_refl g5) #[.int .i64 (v0e - v1e), .int .i64 v2e, .int .i64 ve]) (by omega)⟩), HOW.out, HS.out.2.2.1.trans HBS.out, (setRow_other z91 g5 g0 #[.int .i64 (v0e - v1e), .int .i64 v2e, .int .i64 ve] HGO.out).trans HS.out.2.2.2, HA5.out, by omega⟩⟩
  case rest =>
   obtain ⟨g5, e, rfl, HQ⟩ := hcut
   clear HO HB HC0 HD
   have HD := Lib.hid HQ.out.1; have HO := Lib.hid HQ.out.2.1; have HB := Lib.hid HQ.out.2.2.1; have HC0 := Lib.hid HQ.out.2.2.2.1; have HE := Lib.hid HQ.out.2.2.2.2.1; have HDE := Lib.hid HQ.out.2.2.2.2.2
   clear HQ
   have HFE := Lib.hid HGD.out.few
   have HLO : Hid (∀ x, (outS G.es x).length ≤ 500) := Lib.hid fun x => by
    have h := outS_len G.es x G.es.length (Nat.le_refl _)
    rw [List.take_length] at h
    exact Nat.le_trans h HGD.out.len
   have HLI : Hid (∀ x, (inS G.es x).length ≤ 500) := Lib.hid fun x => by
    have h := inS_len G.es x G.es.length (Nat.le_refl _)
    rw [List.take_length] at h
    exact Nat.le_trans h HGD.out.len
   have HOU : Hid (∀ y x, GOwn y P G v0 → Calls Try.prog 16 #[.agg #[.int .i64 G.sz, .slice A n c, .slice B m k], .int .i64 x] y (GivesI y (outS G.es x))) := Lib.hid fun y x h => by
    have h1 := H.base.out G v0 x y h.hold HGD.out
    rw [HVE.out] at h1
    exact h1
   have HIN : Hid (∀ y x, GOwn y P G v0 → Calls Try.prog 18 #[.agg #[.int .i64 G.sz, .slice A n c, .slice B m k], .int .i64 x] y (GivesI y (inS G.es x))) := Lib.hid fun y x h => by
    have h1 := H.base.in_ G v0 x y h.hold HGD.out
    rw [HVE.out] at h1
    exact h1
   have HROW : Hid (∀ y, GOwn y P G v0 → ERow y A n c G.es) := Lib.hid fun y h => by
    obtain ⟨_, _, _, _, _, _, he, hr, _⟩ := h.hold
    rw [HVE.out] at he
    injection he with he
    simp only [Array.mk.injEq, List.cons.injEq, Value.slice.injEq] at he
    obtain ⟨-, ⟨rfl, rfl, rfl⟩, -⟩ := he
    exact hr
   have hnn5 : n ≤ 100000 := by have h1 := HNL.out; have h2 := HGD.out.len; omega
   go_wp2_with fail
   go_loopw [8] (fun i wr => ∃ j : Int, -1 ≤ j ∧ j ≤ G.sz + 1 ∧ i = .int .i64 j ∧ Hid ((∃ kd, DiceAt wr w.heap.size D t kd) ∧ GOwn wr P G v0 ∧ Below w.heap.size w wr ∧ wr.heap[g0]? = some (.cells #[.int .i64 G.sz, .slice A n c, .slice B m k] 25 (0, 0)) ∧ wr.heap[g5]? = some (.cells e.arr 27 (0, 0)))) (fun i _ => (G.sz + 1 - intOf i).toNat)
   case atStart => exact ⟨-1, by omega, by omega, rfl, Lib.hid ⟨HD.out, HO.out, HB.out, HC0.out, HE.out⟩⟩
   case round =>
    clear HD HO HB HC0 HE
    obtain ⟨j, hj0, hj1, rfl, HQ⟩ := hrel
    have HD := Lib.hid HQ.out.1; have HO := Lib.hid HQ.out.2.1; have HB := Lib.hid HQ.out.2.2.1; have HC0 := Lib.hid HQ.out.2.2.2.1; have HE := Lib.hid HQ.out.2.2.2.2
    clear HQ
    have hx0 : wr.cell? ⟨g0, 0, none⟩ = some (.int .i64 G.sz) := (cell_of_row _ _ 0 _ _ _ HC0.out).trans rfl
    by_cases hlt : j ≤ G.sz
    ·
     go_upto_region 9 with fail
     clear hx0
     refine wp_region_grow (by kernel_rfl) Later Later.refl (fun _ _ _ => Later.trans) [16, 17] [([0, 1, 3, 4], 2), ([], 5), ([], 6), ([7, 8, 9, 10, 12, 13], 11), ([], 14), ([], 15)] (by kernel_rfl) (by kernel_rfl) (by kernel_rfl) ?_
     simp only [List.map_cons, List.map_nil, pick, List.getD_cons_zero, List.getD_cons_succ]
     have hb : Below wr.heap.size wr wr.drew := (Below.refl _ _).drew
     replace HD : Hid (∃ kd, DiceAt wr.drew w.heap.size D t kd) := Lib.hid (by obtain ⟨kd, hk⟩ := HD.out; exact ⟨kd, hk.later hb⟩)
     replace HO := Lib.hid (HO.out.later hb)
     replace HC0 := Lib.hid ((hb.block _ (Array.getElem?_eq_some_iff.1 HC0.out).1).trans HC0.out)
     replace HE := Lib.hid ((hb.block _ (Array.getElem?_eq_some_iff.1 HE.out).1).trans HE.out)
     replace HB := Lib.hid (HB.out.trans (hb.mono HB.out.size))
     clear hb
     generalize wr.drew = z0 at *
     have hl0 : ∀ x, (loadVar 25 ⟨g0, 0, none⟩).run Try.prog (fut Later z0 x) = .ok (.agg #[.int .i64 G.sz, .slice A n c, .slice B m k]) (fut Later z0 x) := fun x => run_loadVar_row _ g0 25 25 #[.int .i64 G.sz, .slice A n c, .slice B m k] (0, 0) _ (((fut_ok Later.refl z0 x).block _ (Array.getElem?_eq_some_iff.1 HC0.out).1).trans HC0.out) Try.underlying25 rfl gr_size
     refine wpGrow_cons ?_
     repeat (first | (refine wpQuiet_load rfl 25 (.tmp 6) rfl ⟨g0, 0, none⟩ rfl (.agg #[.int .i64 G.sz, .slice A n c, .slice B m k]) (fun w' h => by obtain ⟨x, rfl⟩ := h; exact hl0 x) ?_; simp only [Act.put, List.setIfInBounds_toArray, List.set_cons_succ, List.set_cons_zero]) | go_big_quiet_step (fail))
     refine wpQuiet_nil ?_
     clear hl0
     go_wp2_with fail
     refine (HOU.out z0 j HO.out).mono ?_
     rintro e1 z1 ⟨A3, n3, c3, rfl, hr, hb⟩
     have HF : Hid (Later z0 z1) := Lib.hid hb
     have HR3 := Lib.hid hr
     clear hr
     replace HD : Hid (∃ kd, DiceAt z1 w.heap.size D t kd) := Lib.hid (by obtain ⟨kd, hk⟩ := HD.out; exact ⟨kd, hk.later hb⟩)
     replace HO := Lib.hid (HO.out.later hb)
     replace HC0 := Lib.hid ((hb.block _ (Array.getElem?_eq_some_iff.1 HC0.out).1).trans HC0.out)
     replace HE := Lib.hid ((hb.block _ (Array.getElem?_eq_some_iff.1 HE.out).1).trans HE.out)
     replace HB := Lib.hid (HB.out.trans (hb.mono HB.out.size))
     clear hb
     go_wp2_with fail
     refine pieceEnd_normal ⟨HF.out, ?_⟩
     clear HF
     refine wpGrow_cons ?_
     refine wpQuiet_nil ?_
     go_wp2_with fail
     refine (out_any11 A n c G.es G.sz B m k j z1 (HROW.out z1 HO.out) hnn5).mono ?_
     rintro e1 z2 ⟨A4, n4, c4, rfl, hr, hb⟩
     have HF : Hid (Later z1 z2) := Lib.hid hb
     have HR4 := Lib.hid hr
     clear hr
     replace HD : Hid (∃ kd, DiceAt z2 w.heap.size D t kd) := Lib.hid (by obtain ⟨kd, hk⟩ := HD.out; exact ⟨kd, hk.later hb⟩)
     replace HO := Lib.hid (HO.out.later hb)
     replace HC0 := Lib.hid ((hb.block _ (Array.getElem?_eq_some_iff.1 HC0.out).1).trans HC0.out)
     replace HE := Lib.hid ((hb.block _ (Array.getElem?_eq_some_iff.1 HE.out).1).trans HE.out)
     replace HR3 := Lib.hid (HR3.out.later hb)
     replace HB := Lib.hid (HB.out.trans (hb.mono HB.out.size))
     clear hb
     go_wp2_with fail
     refine pieceEnd_normal ⟨HF.out, ?_⟩
     clear HF
     refine wpGrow_cons ?_
     refine wpQuiet_nil ?_
     go_wp2_with fail
     refine (sameI_self A3 n3 c3 A4 n4 c4 (outS G.es j) z2 HR3.out HR4.out (by have h1 := HR3.out.len; have h2 := HLO.out j; omega)).mono ?_
     rintro e1 z3 ⟨rfl, hb⟩
     have HF : Hid (Later z2 z3) := Lib.hid hb
     clear HR3 HR4
     replace HD : Hid (∃ kd, DiceAt z3 w.heap.size D t kd) := Lib.hid (by obtain ⟨kd, hk⟩ := HD.out; exact ⟨kd, hk.later hb⟩)
     replace HO := Lib.hid (HO.out.later hb)
     replace HC0 := Lib.hid ((hb.block _ (Array.getElem?_eq_some_iff.1 HC0.out).1).trans HC0.out)
     replace HE := Lib.hid ((hb.block _ (Array.getElem?_eq_some_iff.1 HE.out).1).trans HE.out)
     replace HB := Lib.hid (HB.out.trans (hb.mono HB.out.size))
     clear hb
     go_wp2_with fail
     refine pieceEnd_normal ⟨HF.out, ?_⟩
     clear HF
     have hl0 : ∀ x, (loadVar 25 ⟨g0, 0, none⟩).run Try.prog (fut Later z3 x) = .ok (.agg #[.int .i64 G.sz, .slice A n c, .slice B m k]) (fut Later z3 x) := fun x => run_loadVar_row _ g0 25 25 #[.int .i64 G.sz, .slice A n c, .slice B m k] (0, 0) _ (((fut_ok Later.refl z3 x).block _ (Array.getElem?_eq_some_iff.1 HC0.out).1).trans HC0.out) Try.underlying25 rfl gr_size
     refine wpGrow_cons ?_
     repeat (first | (refine wpQuiet_load rfl 25 (.tmp 6) rfl ⟨g0, 0, none⟩ rfl (.agg #[.int .i64 G.sz, .slice A n c, .slice B m k]) (fun w' h => by obtain ⟨x, rfl⟩ := h; exact hl0 x) ?_; simp only [Act.put, List.setIfInBounds_toArray, List.set_cons_succ, List.set_cons_zero]) | go_big_quiet_step (fail))
     refine wpQuiet_nil ?_
     clear hl0
     go_wp2_with fail
     refine (HIN.out z3 j HO.out).mono ?_
     rintro e1 z4 ⟨A5, n5, c5, rfl, hr, hb⟩
     have HF : Hid (Later z3 z4) := Lib.hid hb
     have HR5 := Lib.hid hr
     clear hr
     replace HD : Hid (∃ kd, DiceAt z4 w.heap.size D t kd) := Lib.hid (by obtain ⟨kd, hk⟩ := HD.out; exact ⟨kd, hk.later hb⟩)
     replace HO := Lib.hid (HO.out.later hb)
     replace HC0 := Lib.hid ((hb.block _ (Array.getElem?_eq_some_iff.1 HC0.out).1).trans HC0.out)
     replace HE := Lib.hid ((hb.block _ (Array.getElem?_eq_some_iff.1 HE.out).1).trans HE.out)
     replace HB := Lib.hid (HB.out.trans (hb.mono HB.out.size))
     clear hb
     go_wp2_with fail
     refine pieceEnd_normal ⟨HF.out, ?_⟩
     clear HF
     refine wpGrow_cons ?_
     refine wpQuiet_nil ?_
     go_wp2_with fail
     refine (in_any11 A n c G.es G.sz B m k j z4 (HROW.out z4 HO.out) hnn5).mono ?_
     rintro e1 z5 ⟨A6, n6, c6, rfl, hr, hb⟩
     have HF : Hid (Later z4 z5) := Lib.hid hb
     have HR6 := Lib.hid hr
     clear hr
     replace HD : Hid (∃ kd, DiceAt z5 w.heap.size D t kd) := Lib.hid (by obtain ⟨kd, hk⟩ := HD.out; exact ⟨kd, hk.later hb⟩)
     replace HO := Lib.hid (HO.out.later hb)
     replace HC0 := Lib.hid ((hb.block _ (Array.getElem?_eq_some_iff.1 HC0.out).1).trans HC0.out)
     replace HE := Lib.hid ((hb.block _ (Array.getElem?_eq_some_iff.1 HE.out).1).trans HE.out)
     replace HR5 := Lib.hid (HR5.out.later hb)
     replace HB := Lib.hid (HB.out.trans (hb.mono HB.out.size))
     clear hb
     go_wp2_with fail
     refine pieceEnd_normal ⟨HF.out, ?_⟩
     clear HF
     refine wpGrow_cons ?_
     refine wpQuiet_nil ?_
     go_wp2_with fail
     refine (sameI_self A5 n5 c5 A6 n6 c6 (inS G.es j) z5 HR5.out HR6.out (by have h1 := HR5.out.len; have h2 := HLI.out j; omega)).mono ?_
     rintro e1 z6 ⟨rfl, hb⟩
     have HF : Hid (Later z5 z6) := Lib.hid hb
     clear HR5 HR6
     replace HD : Hid (∃ kd, DiceAt z6 w.heap.size D t kd) := Lib.hid (by obtain ⟨kd, hk⟩ := HD.out; exact ⟨kd, hk.later hb⟩)
     replace HO := Lib.hid (HO.out.later hb)
     replace HC0 := Lib.hid ((hb.block _ (Array.getElem?_eq_some_iff.1 HC0.out).1).trans HC0.out)
     replace HE := Lib.hid ((hb.block _ (Array.getElem?_eq_some_iff.1 HE.out).1).trans HE.out)
     replace HB := Lib.hid (HB.out.trans (hb.mono HB.out.size))
     clear hb
     go_wp2_with fail
     refine pieceEnd_normal ⟨HF.out, ?_⟩
     clear HF
     refine wpGrow_nil ?_
     repeat (go_big_quiet_step (fail))
     refine wpQuiet_nil ?_
     go_wp2_with fail
     exact ⟨⟨j + 1, by omega, by omega, by go_num, Lib.hid ⟨HD.out, HO.out, HB.out, HC0.out, HE.out⟩⟩, by simp [intOf]; omega⟩
    ·
     have HAG : Hid (Calls Try.prog 7 #[.agg #[.int .i64 G.sz, .slice A n c, .slice B m k], .agg e.arr] wr (SaysL (.bool true) wr)) := Lib.hid (by
      have h1 := agree11_any H.base G v0 e wr HO.out.hold HFE.out.1 HFE.out.2
      rw [HVE.out] at h1
      exact h1)
     go_wp2_with (first | (refine wpList_load_row rfl 25 (.tmp 6) rfl g0 rfl 25 #[.int .i64 G.sz, .slice A n c, .slice B m k] (0, 0) _ HC0.out Try.underlying25 rfl gr_size ?_) | (refine wpList_load_row rfl 27 (.tmp 7) rfl g5 rfl 27 e.arr (0, 0) _ HE.out Try.underlying27 rfl e.info ?_))
     clear hx0
     refine HAG.out.mono ?_
     clear HAG
     rintro e1 w3 ⟨rfl, hb⟩
     replace HD : Hid (∃ kd, DiceAt w3 w.heap.size D t kd) := Lib.hid (by obtain ⟨kd, hk⟩ := HD.out; exact ⟨kd, hk.later hb⟩)
     replace HO := Lib.hid (HO.out.later hb)
     replace HC0 := Lib.hid ((hb.block _ (Array.getElem?_eq_some_iff.1 HC0.out).1).trans HC0.out)
     replace HE := Lib.hid ((hb.block _ (Array.getElem?_eq_some_iff.1 HE.out).1).trans HE.out)
     replace HB := Lib.hid (HB.out.trans (hb.mono HB.out.size))
     clear hb
     go_wp2_with fail
     go_loopw [9] (fun i wr => ∃ j : Nat, j ≤ 5 ∧ i = .int .i64 j ∧ Hid ((∃ kd, DiceAt wr w.heap.size D t kd) ∧ GOwn wr P G v0 ∧ Below w.heap.size w wr ∧ wr.heap[g0]? = some (.cells #[.int .i64 G.sz, .slice A n c, .slice B m k] 25 (0, 0)) ∧ wr.heap[g5]? = some (.cells e.arr 27 (0, 0)))) (fun i _ => 5 - (intOf i).toNat)
     case atStart => exact ⟨0, Nat.zero_le _, rfl, Lib.hid ⟨HD.out, HO.out, HB.out, HC0.out, HE.out⟩⟩
     case round =>
      clear HD HO HB HC0 HE
      obtain ⟨q, hq, rfl, HQ⟩ := hrel
      have HD := Lib.hid HQ.out.1; have HO := Lib.hid HQ.out.2.1; have HB := Lib.hid HQ.out.2.2.1; have HC0 := Lib.hid HQ.out.2.2.2.1; have HE := Lib.hid HQ.out.2.2.2.2
      clear HQ
      by_cases hlt2 : q < 5
      ·
       have hlt3 : (q : Int) < 5 := by omega
       have HLP : Hid (∀ y, GOwn y P G v0 → Calls Try.prog 20 #[.agg #[.int .i64 G.sz, .slice A n c, .slice B m k], .int .i64 (q : Int)] y (GivesG y (levelG G q))) := Lib.hid fun y h => by
        have h1 := H.base.level G v0 q y h.hold HGD.out
        rw [HVE.out] at h1
        exact h1
       have HLR : Hid (∀ y, GOwn y P G v0 → Calls Try.prog 21 #[.agg #[.int .i64 G.sz, .slice A n c, .slice B m k], .int .i64 (q : Int)] y (GivesGO y (levelG G q))) := Lib.hid fun y h => by
        have h1 := glevel_any G v0 q y h.hold HFE.out.1 HFE.out.2
        rw [HVE.out] at h1
        exact h1
       have HLF : Hid ((levelG G q).es.length ≤ 100000 ∧ (levelG G q).gn.length ≤ 100000) := Lib.hid ⟨Nat.le_trans (List.length_filter_le _ _) HFE.out.1, HFE.out.2⟩
       generalize levelG G q = LG at *
       go_upto_region 16 with fail
       refine wp_region_grow (by kernel_rfl) Later Later.refl (fun _ _ _ => Later.trans) [7] [([0, 1, 3, 4], 2), ([], 5), ([], 6)] (by kernel_rfl) (by kernel_rfl) (by kernel_rfl) ?_
       simp only [List.map_cons, List.map_nil, pick, List.getD_cons_zero, List.getD_cons_succ]
       have hb : Below wr.heap.size wr wr.drew := (Below.refl _ _).drew
       replace HD : Hid (∃ kd, DiceAt wr.drew w.heap.size D t kd) := Lib.hid (by obtain ⟨kd, hk⟩ := HD.out; exact ⟨kd, hk.later hb⟩)
       replace HO := Lib.hid (HO.out.later hb)
       replace HC0 := Lib.hid ((hb.block _ (Array.getElem?_eq_some_iff.1 HC0.out).1).trans HC0.out)
       replace HE := Lib.hid ((hb.block _ (Array.getElem?_eq_some_iff.1 HE.out).1).trans HE.out)
       replace HB := Lib.hid (HB.out.trans (hb.mono HB.out.size))
       clear hb
       generalize wr.drew = z0 at *
       have hl0 : ∀ x, (loadVar 25 ⟨g0, 0, none⟩).run Try.prog (fut Later z0 x) = .ok (.agg #[.int .i64 G.sz, .slice A n c, .slice B m k]) (fut Later z0 x) := fun x => run_loadVar_row _ g0 25 25 #[.int .i64 G.sz, .slice A n c, .slice B m k] (0, 0) _ (((fut_ok Later.refl z0 x).block _ (Array.getElem?_eq_some_iff.1 HC0.out).1).trans HC0.out) Try.underlying25 rfl gr_size
       refine wpGrow_cons ?_
       repeat (first | (refine wpQuiet_load rfl 25 (.tmp 6) rfl ⟨g0, 0, none⟩ rfl (.agg #[.int .i64 G.sz, .slice A n c, .slice B m k]) (fun w' h => by obtain ⟨x, rfl⟩ := h; exact hl0 x) ?_; simp only [Act.put, List.setIfInBounds_toArray, List.set_cons_succ, List.set_cons_zero]) | go_big_quiet_step (fail))
       refine wpQuiet_nil ?_
       clear hl0
       go_wp2_with fail
       refine (HLP.out z0 HO.out).mono ?_
       rintro e1 z1 ⟨v3, rfl, hv, hb⟩
       have HF : Hid (Later z0 z1) := Lib.hid hb
       have HV3 := Lib.hid hv
       clear hv
       replace HD : Hid (∃ kd, DiceAt z1 w.heap.size D t kd) := Lib.hid (by obtain ⟨kd, hk⟩ := HD.out; exact ⟨kd, hk.later hb⟩)
       replace HO := Lib.hid (HO.out.later hb)
       replace HC0 := Lib.hid ((hb.block _ (Array.getElem?_eq_some_iff.1 HC0.out).1).trans HC0.out)
       replace HE := Lib.hid ((hb.block _ (Array.getElem?_eq_some_iff.1 HE.out).1).trans HE.out)
       replace HB := Lib.hid (HB.out.trans (hb.mono HB.out.size))
       clear hb
       obtain ⟨A3, n3, c3, B3, m3, k3, hv3, -, -⟩ := HV3.out
       subst hv3
       go_wp2_with fail
       refine pieceEnd_normal ⟨HF.out, ?_⟩
       clear HF
       refine wpGrow_cons ?_
       refine wpQuiet_nil ?_
       go_wp2_with fail
       refine (HLR.out z1 HO.out).mono ?_
       rintro e1 z2 ⟨v4, rfl, hv, hb⟩
       have HF : Hid (Later z1 z2) := Lib.hid hb
       have HV4 := Lib.hid hv.hold
       replace HV3 := Lib.hid (HV3.out.later hb)
       clear hv
       replace HD : Hid (∃ kd, DiceAt z2 w.heap.size D t kd) := Lib.hid (by obtain ⟨kd, hk⟩ := HD.out; exact ⟨kd, hk.later hb⟩)
       replace HO := Lib.hid (HO.out.later hb)
       replace HC0 := Lib.hid ((hb.block _ (Array.getElem?_eq_some_iff.1 HC0.out).1).trans HC0.out)
       replace HE := Lib.hid ((hb.block _ (Array.getElem?_eq_some_iff.1 HE.out).1).trans HE.out)
       replace HB := Lib.hid (HB.out.trans (hb.mono HB.out.size))
       clear hb
       obtain ⟨A4, n4, c4, B4, m4, k4, hv4, -, -⟩ := HV4.out
       subst hv4
       go_wp2_with fail
       refine pieceEnd_normal ⟨HF.out, ?_⟩
       clear HF
       refine wpGrow_cons ?_
       refine wpQuiet_nil ?_
       go_wp2_with fail
       refine (refsame_self LG _ _ z2 HV3.out HV4.out HLF.out.1 HLF.out.2).mono ?_
       rintro e1 z3 ⟨rfl, hb⟩
       have HF : Hid (Later z2 z3) := Lib.hid hb
       clear HV3 HV4
       replace HD : Hid (∃ kd, DiceAt z3 w.heap.size D t kd) := Lib.hid (by obtain ⟨kd, hk⟩ := HD.out; exact ⟨kd, hk.later hb⟩)
       replace HO := Lib.hid (HO.out.later hb)
       replace HC0 := Lib.hid ((hb.block _ (Array.getElem?_eq_some_iff.1 HC0.out).1).trans HC0.out)
       replace HE := Lib.hid ((hb.block _ (Array.getElem?_eq_some_iff.1 HE.out).1).trans HE.out)
       replace HB := Lib.hid (HB.out.trans (hb.mono HB.out.size))
       clear hb
       go_wp2_with fail
       refine pieceEnd_normal ⟨HF.out, ?_⟩
       clear HF
       refine wpGrow_nil ?_
       repeat (go_big_quiet_step (fail))
       refine wpQuiet_nil ?_
       go_wp2_with fail
       exact ⟨⟨q + 1, by omega, by go_num, Lib.hid ⟨HD.out, HO.out, HB.out, HC0.out, HE.out⟩⟩, by simp [intOf]; omega⟩
      ·
       have hlt3 : ¬ (q : Int) < 5 := by omega
       have HCP : Hid (Calls Try.prog 22 #[.agg #[.int .i64 G.sz, .slice A n c, .slice B m k]] wr (GivesGO wr G)) := Lib.hid (by
        have h1 := gcopy_any G v0 wr HO.out.hold HFE.out.1 HFE.out.2
        rw [HVE.out] at h1
        exact h1)
       go_wp2_with (refine wpList_load_row rfl 25 (.tmp 6) rfl g0 rfl 25 #[.int .i64 G.sz, .slice A n c, .slice B m k] (0, 0) _ HC0.out Try.underlying25 rfl gr_size ?_)
       refine HCP.out.mono ?_
       clear HCP
       rintro e1 w4 ⟨v1, rfl, ho1, hb⟩
       obtain ⟨E1, F1, rfl, h1, h2⟩ := ho1
       obtain ⟨A1, c1, rfl, -⟩ := Row.of_own h1
       obtain ⟨B1, k1, rfl, -⟩ := Row.of_own h2
       have HO1 := Lib.hid h1; have HO2 := Lib.hid h2
       have HDW : Hid (D < wr.heap.size) := Lib.hid (by obtain ⟨kd, hk⟩ := HD.out; exact hk.lt)
       have HWR : Hid (w.heap.size ≤ wr.heap.size) := Lib.hid HB.out.size
       have HVB : Hid (∀ e gv, v0 = .agg #[.int .i64 G.sz, e, gv] → ∀ q, e.ownBlock = some q ∨ gv.ownBlock = some q → q < wr.heap.size) := Lib.hid (by
        intro e gv he q hq
        obtain ⟨e2, g2, he2, h3, h4⟩ := HO.out
        rw [he] at he2
        injection he2 with he2
        simp only [Array.mk.injEq, List.cons.injEq, true_and, and_true] at he2
        obtain ⟨rfl, rfl⟩ := he2
        rcases hq with hq | hq
        ·
         exact own_lt h3 q hq
        ·
         exact own_lt h4 q hq)
       have HG0R : Hid (g0 < wr.heap.size ∧ g5 < wr.heap.size) := Lib.hid ⟨(Array.getElem?_eq_some_iff.1 HC0.out).1, (Array.getElem?_eq_some_iff.1 HE.out).1⟩
       clear h1 h2
       have HW14 : Hid (wr.heap.size ≤ w4.heap.size) := Lib.hid hb.size
       replace HD : Hid (∃ kd, DiceAt w4 w.heap.size D t kd) := Lib.hid (by obtain ⟨kd, hk⟩ := HD.out; exact ⟨kd, hk.later hb⟩)
       replace HO := Lib.hid (HO.out.later hb)
       replace HC0 := Lib.hid ((hb.block _ (Array.getElem?_eq_some_iff.1 HC0.out).1).trans HC0.out)
       replace HE := Lib.hid ((hb.block _ (Array.getElem?_eq_some_iff.1 HE.out).1).trans HE.out)
       replace HB := Lib.hid (HB.out.trans (hb.mono HB.out.size))
       clear hb
       go_upto_region 19 with (refine wpList_store_new rfl 25 (.tmp 10) (.tmp 81) rfl 25 _ #[.int .i64 G.sz, .slice A1 G.es.length c1, .slice B1 G.gn.length k1] rfl rfl gr_size rfl (by simp [Value.oneCell']) ?_)
       have hb := one_new w4 (.cells #[.int .i64 G.sz, .slice A1 G.es.length c1, .slice B1 G.gn.length k1] 25)
       have HC1 : Hid ((w4.alloc (.cells #[.int .i64 G.sz, .slice A1 G.es.length c1, .slice B1 G.gn.length k1] 25)).heap[w4.heap.size]? = some (.cells #[.int .i64 G.sz, .slice A1 G.es.length c1, .slice B1 G.gn.length k1] 25 (0, 0))) := Lib.hid (heap_alloc_new _ _)
       have HONW : Hid ((∀ q, (Value.slice A1 G.es.length c1).ownBlock = some q → q ≠ w4.heap.size) ∧ (∀ q, (Value.slice B1 G.gn.length k1).ownBlock = some q → q ≠ w4.heap.size)) := Lib.hid ⟨fun q hq => Nat.ne_of_lt (own_lt HO1.out q hq), fun q hq => Nat.ne_of_lt (own_lt HO2.out q hq)⟩
       replace HO1 := Lib.hid (own_later HO1.out hb); replace HO2 := Lib.hid (own_later HO2.out hb)
       replace HD : Hid (∃ kd, DiceAt (w4.alloc (.cells #[.int .i64 G.sz, .slice A1 G.es.length c1, .slice B1 G.gn.length k1] 25)) w.heap.size D t kd) := Lib.hid (by obtain ⟨kd, hk⟩ := HD.out; exact ⟨kd, hk.later hb⟩)
       replace HO := Lib.hid (HO.out.later hb)
       replace HC0 := Lib.hid ((hb.block _ (Array.getElem?_eq_some_iff.1 HC0.out).1).trans HC0.out)
       replace HE := Lib.hid ((hb.block _ (Array.getElem?_eq_some_iff.1 HE.out).1).trans HE.out)
       replace HB := Lib.hid (HB.out.trans (hb.mono HB.out.size))
       clear hb
       have HWG1 : Hid (wr.heap.size ≤ w4.heap.size) := HW14
       have HDR : Hid (D < w4.heap.size) := Lib.hid (Nat.lt_of_lt_of_le HDW.out HWG1.out)
       have HON : Hid ((∀ q, (Value.slice A1 G.es.length c1).ownBlock = some q → q ≠ w4.heap.size) ∧ (∀ q, (Value.slice B1 G.gn.length k1).ownBlock = some q → q ≠ w4.heap.size)) := HONW
       generalize w4.alloc (.cells #[.int .i64 G.sz, .slice A1 G.es.length c1, .slice B1 G.gn.length k1] 25) = y4 at *
       generalize w4.heap.size = g1 at *
       try dsimp only [Act.put]
       go_wp2_with fail
       refine (next_g w.heap.size D t 6 y4 HD.out (by omega) (by omega)).mono ?_
       rintro e1 w5 ⟨arm, rfl, ha0, ha1, hg⟩
       have HQ : Hid ((∃ kd, DiceAt w5 w.heap.size D t kd) ∧ GOwn w5 P G v0 ∧ Below w.heap.size w w5 ∧ w5.heap[g0]? = some (.cells #[.int .i64 G.sz, .slice A n c, .slice B m k] 25 (0, 0)) ∧ w5.heap[g5]? = some (.cells e.arr 27 (0, 0))) := Lib.hid ⟨hg.1, HO.out.but hg.2 HDP.out, HB.out.trans (hg.2.below (by have := HDD.out; omega) HB.out.size), (hg.2.block g0 (Array.getElem?_eq_some_iff.1 HC0.out).1 (by have := HDG.out; omega)).trans HC0.out, (hg.2.block g5 (Array.getElem?_eq_some_iff.1 HE.out).1 (by have := HDE.out; omega)).trans HE.out⟩
       replace HC1 := Lib.hid ((hg.2.block g1 (Array.getElem?_eq_some_iff.1 HC1.out).1 (by have := HDR.out; omega)).trans HC1.out)
       have HG1 : Hid (wr.heap.size ≤ g1) := HWG1
       replace HO1 := Lib.hid (own_keepL HO1.out fun q hq => hg.2.block q (own_lt HO1.out q hq) (by have := own_ge HO1.out q hq; have := HDW.out; omega))
       replace HO2 := Lib.hid (own_keepL HO2.out fun q hq => hg.2.block q (own_lt HO2.out q hq) (by have := own_ge HO2.out q hq; have := HDW.out; omega))
       clear hg HD HO HB HC0 HE
       have HTURN : Hid (∀ z x, ((∃ kd, DiceAt z w.heap.size D t kd) ∧ GOwn z P G v0 ∧ Below w.heap.size w z ∧ z.heap[g0]? = some (.cells #[.int .i64 G.sz, .slice A n c, .slice B m k] 25 (0, 0)) ∧ z.heap[g5]? = some (.cells e.arr 27 (0, 0))) → Below wr.heap.size z x → ((∃ kd, DiceAt x w.heap.size D t kd) ∧ GOwn x P G v0 ∧ Below w.heap.size w x ∧ x.heap[g0]? = some (.cells #[.int .i64 G.sz, .slice A n c, .slice B m k] 25 (0, 0)) ∧ x.heap[g5]? = some (.cells e.arr 27 (0, 0)))) := Lib.hid (by
        intro z x hz hb
        have h2 := HDW.out; have h3 := HG0R.out; have h6 := HWR.out
        refine ⟨?_, ?_, hz.2.2.1.trans (hb.mono h6), (hb.block g0 h3.1).trans hz.2.2.2.1, (hb.block g5 h3.2).trans hz.2.2.2.2⟩
        ·
         obtain ⟨kd, hk⟩ := hz.1
         exact ⟨kd, hk.below hb h2⟩
        ·
         obtain ⟨e1, gv, he, h5, h7⟩ := hz.2.1
         exact ⟨e1, gv, he, own_keepL h5 fun q hq => hb.block q (HVB.out e1 gv he q (.inl hq)), own_keepL h7 fun q hq => hb.block q (HVB.out e1 gv he q (.inr hq))⟩)
       have HDICE : Hid (∀ z x, ((∃ kd, DiceAt z w.heap.size D t kd) ∧ GOwn z P G v0 ∧ Below w.heap.size w z ∧ z.heap[g0]? = some (.cells #[.int .i64 G.sz, .slice A n c, .slice B m k] 25 (0, 0)) ∧ z.heap[g5]? = some (.cells e.arr 27 (0, 0))) → Gave w.heap.size D t z x → ((∃ kd, DiceAt x w.heap.size D t kd) ∧ GOwn x P G v0 ∧ Below w.heap.size w x ∧ x.heap[g0]? = some (.cells #[.int .i64 G.sz, .slice A n c, .slice B m k] 25 (0, 0)) ∧ x.heap[g5]? = some (.cells e.arr 27 (0, 0)))) := Lib.hid (by
        intro z x hz hg
        exact ⟨hg.1, hz.2.1.but hg.2 HDP.out, hz.2.2.1.trans (hg.2.below (by have := HDD.out; omega) hz.2.2.1.size), (hg.2.block g0 (Array.getElem?_eq_some_iff.1 hz.2.2.2.1).1 (by have := HDG.out; omega)).trans hz.2.2.2.1, (hg.2.block g5 (Array.getElem?_eq_some_iff.1 hz.2.2.2.2).1 (by have := HDE.out; omega)).trans hz.2.2.2.2⟩)
       have HRS : Hid (wr.heap.size ≤ w5.heap.size) := Lib.hid (Nat.le_trans HG1.out (Nat.le_of_lt (Array.getElem?_eq_some_iff.1 HC1.out).1))
       obtain ⟨q0, hq0⟩ : ∃ q0, wr.heap.size = q0 := ⟨_, rfl⟩
       have HQ0 := Lib.hid hq0
       rw [hq0] at HTURN HO1 HO2 HG1 HDW HRS
       clear hq0
       have HDG1 : Hid (D ≠ g1) := Lib.hid (by have h1 := HDW.out; have h2 := HG1.out; omega)
       go_upto_block 4 with fail
       go_cut [] (fun wx => ∃ (K : Gr) (A2 : Option Addr) (n2 c2 : Nat) (B2 : Option Addr) (m2 k2 : Nat), Hid (((∃ kd, DiceAt wx w.heap.size D t kd) ∧ GOwn wx P G v0 ∧ Below w.heap.size w wx ∧ wx.heap[g0]? = some (.cells #[.int .i64 G.sz, .slice A n c, .slice B m k] 25 (0, 0)) ∧ wx.heap[g5]? = some (.cells e.arr 27 (0, 0))) ∧ wx.heap[g1]? = some (.cells #[.int .i64 K.sz, .slice A2 n2 c2, .slice B2 m2 k2] 25 (0, 0)) ∧ ERow wx A2 n2 c2 K.es ∧ IRow wx B2 m2 k2 K.gn ∧ K.es.length ≤ 100000 ∧ K.gn.length ≤ 100000))
       case first =>
        have harm : arm = 0 ∨ arm = 1 ∨ arm = 2 ∨ arm = 3 ∨ arm = 4 ∨ arm = 5 := by omega
        rcases harm with rfl | rfl | rfl | rfl | rfl | rfl
        ·
         have hz0 : w5.cell? ⟨g1, 0, none⟩ = some (.int .i64 G.sz) := (cell_of_row _ _ 0 _ _ _ HC1.out).trans rfl
         have hfz : w5.frozen? ⟨g1, 0, none⟩ = false := by unfold World.frozen?; rw [HC1.out]; simp
         go_wp2_with fail
         refine (mod_any nn 70 w5 (by decide) (by decide)).mono ?_
         rintro e1 wm ⟨rfl, rfl⟩
         have hmb := modF_bd nn 70 (by decide)
         generalize modF nn 70 = mo at *
         go_wp2_with fail
         go_meet
         have hN1 := own_neqT HO1.out HC1.out (by decide); have hN2 := own_neqT HO2.out HC1.out (by decide)
         have hkc : ∀ q, q ≠ g1 → (w5.setCell ⟨g1, 0, none⟩ (.int .i64 (mo - 2))).heap[q]? = w5.heap[q]? := fun q hq => Below.heap_setCell w5 ⟨g1, 0, none⟩ _ q hq
         exact ⟨⟨mo - 2, G.es, G.gn⟩, A1, _, c1, B1, _, k1, Lib.hid ⟨HTURN.out _ _ HQ.out ((Below.refl _ _).setCell (p := ⟨g1, 0, none⟩) HG1.out _), heap_setCell_same _ _ _ _ _ _ HC1.out, own_rowE (own_keepL HO1.out fun q hq => hkc q (hN1 q hq)), own_rowI (own_keepL HO2.out fun q hq => hkc q (hN2 q hq)), HFE.out.1, HFE.out.2⟩⟩
        ·
         as_aux_lemma =>
          go_upto_region 25 with fail
          refine wp_region_flow (by kernel_rfl) AnyW ?_
          have hb : Below w5.heap.size w5 w5.drew := (Below.refl _ _).drew
          have HS : Hid ((∃ kd, DiceAt w5.drew w.heap.size D t kd) ∧ GOwn w5.drew P G v0 ∧ Below w.heap.size w w5.drew ∧ w5.drew.heap[g0]? = some (.cells #[.int .i64 G.sz, .slice A n c, .slice B m k] 25 (0, 0)) ∧ w5.drew.heap[g5]? = some (.cells e.arr 27 (0, 0))) := Lib.hid (HTURN.out _ _ HQ.out (hb.mono HRS.out))
          have HC : Hid (w5.drew.heap[g1]? = some (.cells #[.int .i64 G.sz, .slice A1 G.es.length c1, .slice B1 G.gn.length k1] 25 (0, 0))) := HC1
          have HP1 := Lib.hid (own_later HO1.out hb); have HP2 := Lib.hid (own_later HO2.out hb)
          have HZ : Hid (q0 ≤ w5.drew.heap.size) := HRS
          clear hb HQ HC1 HO1 HO2
          generalize w5.drew = z0 at *
          refine flow_reads (F := AnyW) (fun _ => AnyW.all _ _) (by kernel_rfl) [0, 2] (fuel := 6) (by kernel_rfl) ?_
          simp only [List.map_cons, List.map_nil, pick, List.getD_cons_zero, List.getD_cons_succ]
          repeat (go_big_quiet_step (fail))
          refine wpQuiet_nil ?_
          refine flow_two (F := AnyW) (fun _ _ _ _ _ => AnyW.all _ _) (fun _ => AnyW.all _ _) 1 3 (by kernel_rfl) (by decide) (by decide) ?_ ?_ <;> simp only [pick, List.getD_cons_zero, List.getD_cons_succ]
          ·
           skip
           have hz2 : z0.cell? ⟨g1, 2, none⟩ = some (.slice B1 G.gn.length k1) := (cell_of_row _ _ 2 _ _ _ HC.out).trans rfl
           go_wp2_with fail
           refine pieceEnd_normal ⟨AnyW.all _ _, ?_⟩
           clear hz2
           refine flow_one (F := AnyW) (fun _ _ _ _ _ => AnyW.all _ _) (fun _ => AnyW.all _ _) 3 (by kernel_rfl) (by decide) ?_
           simp only [pick, List.getD_cons_zero, List.getD_cons_succ]
           go_wp2_with fail
           refine (next_g w.heap.size D t 9 z0 HS.out.1 (by omega) (by omega)).mono ?_
           rintro e1 z1 ⟨x9, rfl, hx90, hx91, hg⟩
           replace HS : Hid ((∃ kd, DiceAt z1 w.heap.size D t kd) ∧ GOwn z1 P G v0 ∧ Below w.heap.size w z1 ∧ z1.heap[g0]? = some (.cells #[.int .i64 G.sz, .slice A n c, .slice B m k] 25 (0, 0)) ∧ z1.heap[g5]? = some (.cells e.arr 27 (0, 0))) := Lib.hid (HDICE.out _ _ HS.out hg)
           replace HC : Hid (z1.heap[g1]? = _) := Lib.hid ((hg.2.block g1 (Array.getElem?_eq_some_iff.1 HC.out).1 (Ne.symm HDG1.out)).trans HC.out)
           replace HP1 := Lib.hid (own_keepL HP1.out fun q hq => hg.2.block q (own_lt HP1.out q hq) (by have h1 := own_ge HP1.out q hq; have h2 := HDW.out; omega))
           replace HP2 := Lib.hid (own_keepL HP2.out fun q hq => hg.2.block q (own_lt HP2.out q hq) (by have h1 := own_ge HP2.out q hq; have h2 := HDW.out; omega))
           replace HZ : Hid (q0 ≤ z1.heap.size) := Lib.hid (Nat.le_trans HZ.out hg.2.size)
           clear hg
           go_wp2_with fail
           refine pieceEnd_normal ⟨AnyW.all _ _, ?_⟩
           refine flow_one (F := AnyW) (fun _ _ _ _ _ => AnyW.all _ _) (fun _ => AnyW.all _ _) 4 (by kernel_rfl) (by decide) ?_
           simp only [pick, List.getD_cons_zero, List.getD_cons_succ]
           go_wp2_with fail
           have hb := one_new z1 (.cells #[.int .i64 x9] 3)
           refine pieceEnd_normal ⟨AnyW.all _ _, ?_⟩
           have HR3 : Hid (Row (z1.alloc (.cells #[.int .i64 x9] 3)) (some ⟨z1.heap.size, 0, none⟩) 1 1 1 (intsV [x9])) := Lib.hid (Row.of_block (heap_alloc_new _ _) rfl)
           replace HS : Hid ((∃ kd, DiceAt (z1.alloc (.cells #[.int .i64 x9] 3)) w.heap.size D t kd) ∧ GOwn (z1.alloc (.cells #[.int .i64 x9] 3)) P G v0 ∧ Below w.heap.size w (z1.alloc (.cells #[.int .i64 x9] 3)) ∧ (z1.alloc (.cells #[.int .i64 x9] 3)).heap[g0]? = some (.cells #[.int .i64 G.sz, .slice A n c, .slice B m k] 25 (0, 0)) ∧ (z1.alloc (.cells #[.int .i64 x9] 3)).heap[g5]? = some (.cells e.arr 27 (0, 0))) := Lib.hid (HTURN.out _ _ HS.out (hb.mono HZ.out))
           replace HC := Lib.hid ((hb.block g1 (Array.getElem?_eq_some_iff.1 HC.out).1).trans HC.out)
           replace HP1 := Lib.hid (own_later HP1.out hb); replace HP2 := Lib.hid (own_later HP2.out hb)
           replace HZ := Lib.hid (Nat.le_trans HZ.out hb.size)
           clear hb
           obtain ⟨g3, hg3⟩ : ∃ g3, z1.heap.size = g3 := ⟨_, rfl⟩
           rw [hg3] at HR3 ⊢
           clear hg3
           generalize z1.alloc (.cells #[.int .i64 x9] 3) = z2 at *
           refine flow_one (F := AnyW) (fun _ _ _ _ _ => AnyW.all _ _) (fun _ => AnyW.all _ _) 5 (by kernel_rfl) (by decide) ?_
           simp only [pick, List.getD_cons_zero, List.getD_cons_succ]
           have hgl := HFE.out.2
           go_wp2_with (at_builtin; go_must (refine wpList_app2 z2 rfl (.tmp 111) (.tmp 114) 23 23 3 rfl q0 Try.underlying23 i64_info rfl _ G.gn.length (intsV G.gn) HP2.out rfl _ 1 (intsV [x9]) (Row.src HR3.out Try.underlying23 (intsV_one _)) rfl (by unfold maxLen; omega) (by omega) HZ.out ?_); intro v4 z7 ho hb hk1 _; have HP3 := Lib.hid ho; have HBB := Lib.hid hb; have HKK := Lib.hid hk1; clear ho hb hk1)
           refine pieceEnd_normal ⟨AnyW.all _ _, ?_⟩
           have HS7 : Hid ((∃ kd, DiceAt z7 w.heap.size D t kd) ∧ GOwn z7 P G v0 ∧ Below w.heap.size w z7 ∧ z7.heap[g0]? = some (.cells #[.int .i64 G.sz, .slice A n c, .slice B m k] 25 (0, 0)) ∧ z7.heap[g5]? = some (.cells e.arr 27 (0, 0))) := Lib.hid (HTURN.out _ _ HS.out HBB.out)
           have HC7 : Hid (z7.heap[g1]? = _) := Lib.hid ((HKK.out g1 (Array.getElem?_eq_some_iff.1 HC.out).1 (fun h => own_neqT HP2.out HC.out (by decide) g1 h rfl)).trans HC.out)
           have HP17 := Lib.hid (own_keepL HP1.out fun q hq => HKK.out q (own_lt HP1.out q hq) (own_twoT HP1.out HP2.out (by decide) q hq))
           obtain ⟨A4, c4, hv4, -⟩ := Row.of_own HP3.out
           subst hv4
           clear HS HC HP1 HP2 HKK HBB HR3
           refine flow_reads (F := AnyW) (fun _ => AnyW.all _ _) (by kernel_rfl) [6] (fuel := 1) (by kernel_rfl) ?_
           simp only [List.map_cons, List.map_nil, pick, List.getD_cons_zero, List.getD_cons_succ]
           repeat (go_big_quiet_step (fail))
           refine wpQuiet_nil ?_
           refine flow_one (F := AnyW) (fun _ _ _ _ _ => AnyW.all _ _) (fun _ => AnyW.all _ _) 7 (by kernel_rfl) (by decide) ?_
           simp only [pick, List.getD_cons_zero, List.getD_cons_succ]
           have hz2 : z7.cell? ⟨g1, 2, none⟩ = some (.slice B1 G.gn.length k1) := (cell_of_row _ _ 2 _ _ _ HC7.out).trans rfl
           have hfz : z7.frozen? ⟨g1, 2, none⟩ = false := by unfold World.frozen?; rw [HC7.out]; simp
           go_wp2_with fail
           refine pieceEnd_normal ⟨AnyW.all _ _, ?_⟩
           refine flow_done (by kernel_rfl) ?_
           go_wp2_with fail
           go_meet
           have hN1 := own_neqT HP17.out HC7.out (by decide); have hN2 := own_neqT HP3.out HC7.out (by decide)
           have hkc : ∀ q, q ≠ g1 → (z7.setCell ⟨g1, 2, none⟩ (.slice A4 (G.gn.length + 1) c4)).heap[q]? = z7.heap[q]? := fun q hq => Below.heap_setCell z7 ⟨g1, 2, none⟩ _ q hq
           exact ⟨⟨G.sz, G.es, G.gn ++ [x9]⟩, A1, _, c1, A4, _, c4, Lib.hid ⟨HTURN.out _ _ HS7.out ((Below.refl _ _).setCell (p := ⟨g1, 2, none⟩) HG1.out _), heap_setCell_same _ _ _ _ _ _ HC7.out, own_rowE (own_keepL HP17.out fun q hq => hkc q (hN1 q hq)), own_rowI (own_keepL (by have h := HP3.out; rwa [← intsV_app] at h) fun q hq => hkc q (hN2 q hq)), HFE.out.1, by show (G.gn ++ [x9]).length ≤ 100000; rw [List.length_append]; have h1 := HGD.out.few.2; have h2 := set_len HGD.out.set HGD.out.hi; simp; omega⟩⟩
          ·
           skip
           go_wp2_with fail
           refine (next_g w.heap.size D t 9 z0 HS.out.1 (by omega) (by omega)).mono ?_
           rintro e1 z1 ⟨x9, rfl, hx90, hx91, hg⟩
           replace HS : Hid ((∃ kd, DiceAt z1 w.heap.size D t kd) ∧ GOwn z1 P G v0 ∧ Below w.heap.size w z1 ∧ z1.heap[g0]? = some (.cells #[.int .i64 G.sz, .slice A n c, .slice B m k] 25 (0, 0)) ∧ z1.heap[g5]? = some (.cells e.arr 27 (0, 0))) := Lib.hid (HDICE.out _ _ HS.out hg)
           replace HC : Hid (z1.heap[g1]? = _) := Lib.hid ((hg.2.block g1 (Array.getElem?_eq_some_iff.1 HC.out).1 (Ne.symm HDG1.out)).trans HC.out)
           replace HP1 := Lib.hid (own_keepL HP1.out fun q hq => hg.2.block q (own_lt HP1.out q hq) (by have h1 := own_ge HP1.out q hq; have h2 := HDW.out; omega))
           replace HP2 := Lib.hid (own_keepL HP2.out fun q hq => hg.2.block q (own_lt HP2.out q hq) (by have h1 := own_ge HP2.out q hq; have h2 := HDW.out; omega))
           replace HZ : Hid (q0 ≤ z1.heap.size) := Lib.hid (Nat.le_trans HZ.out hg.2.size)
           clear hg
           go_wp2_with fail
           refine pieceEnd_normal ⟨AnyW.all _ _, ?_⟩
           refine flow_two (F := AnyW) (fun _ _ _ _ _ => AnyW.all _ _) (fun _ => AnyW.all _ _) 1 4 (by kernel_rfl) (by decide) (by decide) ?_ ?_ <;> simp only [pick, List.getD_cons_zero, List.getD_cons_succ]
           ·
            skip
            have hz2 : z1.cell? ⟨g1, 2, none⟩ = some (.slice B1 G.gn.length k1) := (cell_of_row _ _ 2 _ _ _ HC.out).trans rfl
            go_wp2_with fail
            refine pieceEnd_normal ⟨AnyW.all _ _, ?_⟩
            clear hz2
            refine flow_one (F := AnyW) (fun _ _ _ _ _ => AnyW.all _ _) (fun _ => AnyW.all _ _) 4 (by kernel_rfl) (by decide) ?_
            simp only [pick, List.getD_cons_zero, List.getD_cons_succ]
            go_wp2_with fail
            have hb := one_new z1 (.cells #[.int .i64 x9] 3)
            refine pieceEnd_normal ⟨AnyW.all _ _, ?_⟩
            have HR3 : Hid (Row (z1.alloc (.cells #[.int .i64 x9] 3)) (some ⟨z1.heap.size, 0, none⟩) 1 1 1 (intsV [x9])) := Lib.hid (Row.of_block (heap_alloc_new _ _) rfl)
            replace HS : Hid ((∃ kd, DiceAt (z1.alloc (.cells #[.int .i64 x9] 3)) w.heap.size D t kd) ∧ GOwn (z1.alloc (.cells #[.int .i64 x9] 3)) P G v0 ∧ Below w.heap.size w (z1.alloc (.cells #[.int .i64 x9] 3)) ∧ (z1.alloc (.cells #[.int .i64 x9] 3)).heap[g0]? = some (.cells #[.int .i64 G.sz, .slice A n c, .slice B m k] 25 (0, 0)) ∧ (z1.alloc (.cells #[.int .i64 x9] 3)).heap[g5]? = some (.cells e.arr 27 (0, 0))) := Lib.hid (HTURN.out _ _ HS.out (hb.mono HZ.out))
            replace HC := Lib.hid ((hb.block g1 (Array.getElem?_eq_some_iff.1 HC.out).1).trans HC.out)
            replace HP1 := Lib.hid (own_later HP1.out hb); replace HP2 := Lib.hid (own_later HP2.out hb)
            replace HZ := Lib.hid (Nat.le_trans HZ.out hb.size)
            clear hb
            obtain ⟨g3, hg3⟩ : ∃ g3, z1.heap.size = g3 := ⟨_, rfl⟩
            rw [hg3] at HR3 ⊢
            clear hg3
            generalize z1.alloc (.cells #[.int .i64 x9] 3) = z2 at *
            refine flow_one (F := AnyW) (fun _ _ _ _ _ => AnyW.all _ _) (fun _ => AnyW.all _ _) 5 (by kernel_rfl) (by decide) ?_
            simp only [pick, List.getD_cons_zero, List.getD_cons_succ]
            have hgl := HFE.out.2
            go_wp2_with (at_builtin; go_must (refine wpList_app2 z2 rfl (.tmp 111) (.tmp 114) 23 23 3 rfl q0 Try.underlying23 i64_info rfl _ G.gn.length (intsV G.gn) HP2.out rfl _ 1 (intsV [x9]) (Row.src HR3.out Try.underlying23 (intsV_one _)) rfl (by unfold maxLen; omega) (by omega) HZ.out ?_); intro v4 z7 ho hb hk1 _; have HP3 := Lib.hid ho; have HBB := Lib.hid hb; have HKK := Lib.hid hk1; clear ho hb hk1)
            refine pieceEnd_normal ⟨AnyW.all _ _, ?_⟩
            have HS7 : Hid ((∃ kd, DiceAt z7 w.heap.size D t kd) ∧ GOwn z7 P G v0 ∧ Below w.heap.size w z7 ∧ z7.heap[g0]? = some (.cells #[.int .i64 G.sz, .slice A n c, .slice B m k] 25 (0, 0)) ∧ z7.heap[g5]? = some (.cells e.arr 27 (0, 0))) := Lib.hid (HTURN.out _ _ HS.out HBB.out)
            have HC7 : Hid (z7.heap[g1]? = _) := Lib.hid ((HKK.out g1 (Array.getElem?_eq_some_iff.1 HC.out).1 (fun h => own_neqT HP2.out HC.out (by decide) g1 h rfl)).trans HC.out)
            have HP17 := Lib.hid (own_keepL HP1.out fun q hq => HKK.out q (own_lt HP1.out q hq) (own_twoT HP1.out HP2.out (by decide) q hq))
            obtain ⟨A4, c4, hv4, -⟩ := Row.of_own HP3.out
            subst hv4
            clear HS HC HP1 HP2 HKK HBB HR3
            refine flow_reads (F := AnyW) (fun _ => AnyW.all _ _) (by kernel_rfl) [6] (fuel := 1) (by kernel_rfl) ?_
            simp only [List.map_cons, List.map_nil, pick, List.getD_cons_zero, List.getD_cons_succ]
            repeat (go_big_quiet_step (fail))
            refine wpQuiet_nil ?_
            refine flow_one (F := AnyW) (fun _ _ _ _ _ => AnyW.all _ _) (fun _ => AnyW.all _ _) 7 (by kernel_rfl) (by decide) ?_
            simp only [pick, List.getD_cons_zero, List.getD_cons_succ]
            have hz2 : z7.cell? ⟨g1, 2, none⟩ = some (.slice B1 G.gn.length k1) := (cell_of_row _ _ 2 _ _ _ HC7.out).trans rfl
            have hfz : z7.frozen? ⟨g1, 2, none⟩ = false := by unfold World.frozen?; rw [HC7.out]; simp
            go_wp2_with fail
            refine pieceEnd_normal ⟨AnyW.all _ _, ?_⟩
            refine flow_done (by kernel_rfl) ?_
            go_wp2_with fail
            go_meet
            have hN1 := own_neqT HP17.out HC7.out (by decide); have hN2 := own_neqT HP3.out HC7.out (by decide)
            have hkc : ∀ q, q ≠ g1 → (z7.setCell ⟨g1, 2, none⟩ (.slice A4 (G.gn.length + 1) c4)).heap[q]? = z7.heap[q]? := fun q hq => Below.heap_setCell z7 ⟨g1, 2, none⟩ _ q hq
            exact ⟨⟨G.sz, G.es, G.gn ++ [x9]⟩, A1, _, c1, A4, _, c4, Lib.hid ⟨HTURN.out _ _ HS7.out ((Below.refl _ _).setCell (p := ⟨g1, 2, none⟩) HG1.out _), heap_setCell_same _ _ _ _ _ _ HC7.out, own_rowE (own_keepL HP17.out fun q hq => hkc q (hN1 q hq)), own_rowI (own_keepL (by have h := HP3.out; rwa [← intsV_app] at h) fun q hq => hkc q (hN2 q hq)), HFE.out.1, by show (G.gn ++ [x9]).length ≤ 100000; rw [List.length_append]; have h1 := HGD.out.few.2; have h2 := set_len HGD.out.set HGD.out.hi; simp; omega⟩⟩
           ·
            skip
            go_wp2_with fail
            have hb := one_new z1 (.cells #[.int .i64 x9] 3)
            refine pieceEnd_normal ⟨AnyW.all _ _, ?_⟩
            have HR3 : Hid (Row (z1.alloc (.cells #[.int .i64 x9] 3)) (some ⟨z1.heap.size, 0, none⟩) 1 1 1 (intsV [x9])) := Lib.hid (Row.of_block (heap_alloc_new _ _) rfl)
            replace HS : Hid ((∃ kd, DiceAt (z1.alloc (.cells #[.int .i64 x9] 3)) w.heap.size D t kd) ∧ GOwn (z1.alloc (.cells #[.int .i64 x9] 3)) P G v0 ∧ Below w.heap.size w (z1.alloc (.cells #[.int .i64 x9] 3)) ∧ (z1.alloc (.cells #[.int .i64 x9] 3)).heap[g0]? = some (.cells #[.int .i64 G.sz, .slice A n c, .slice B m k] 25 (0, 0)) ∧ (z1.alloc (.cells #[.int .i64 x9] 3)).heap[g5]? = some (.cells e.arr 27 (0, 0))) := Lib.hid (HTURN.out _ _ HS.out (hb.mono HZ.out))
            replace HC := Lib.hid ((hb.block g1 (Array.getElem?_eq_some_iff.1 HC.out).1).trans HC.out)
            replace HP1 := Lib.hid (own_later HP1.out hb); replace HP2 := Lib.hid (own_later HP2.out hb)
            replace HZ := Lib.hid (Nat.le_trans HZ.out hb.size)
            clear hb
            obtain ⟨g3, hg3⟩ : ∃ g3, z1.heap.size = g3 := ⟨_, rfl⟩
            rw [hg3] at HR3 ⊢
            clear hg3
            generalize z1.alloc (.cells #[.int .i64 x9] 3) = z2 at *
            refine flow_one (F := AnyW) (fun _ _ _ _ _ => AnyW.all _ _) (fun _ => AnyW.all _ _) 1 (by kernel_rfl) (by decide) ?_
            simp only [pick, List.getD_cons_zero, List.getD_cons_succ]
            have hz2 : z2.cell? ⟨g1, 2, none⟩ = some (.slice B1 G.gn.length k1) := (cell_of_row _ _ 2 _ _ _ HC.out).trans rfl
            go_wp2_with fail
            refine pieceEnd_normal ⟨AnyW.all _ _, ?_⟩
            clear hz2
            refine flow_one (F := AnyW) (fun _ _ _ _ _ => AnyW.all _ _) (fun _ => AnyW.all _ _) 5 (by kernel_rfl) (by decide) ?_
            simp only [pick, List.getD_cons_zero, List.getD_cons_succ]
            have hgl := HFE.out.2
            go_wp2_with (at_builtin; go_must (refine wpList_app2 z2 rfl (.tmp 111) (.tmp 114) 23 23 3 rfl q0 Try.underlying23 i64_info rfl _ G.gn.length (intsV G.gn) HP2.out rfl _ 1 (intsV [x9]) (Row.src HR3.out Try.underlying23 (intsV_one _)) rfl (by unfold maxLen; omega) (by omega) HZ.out ?_); intro v4 z7 ho hb hk1 _; have HP3 := Lib.hid ho; have HBB := Lib.hid hb; have HKK := Lib.hid hk1; clear ho hb hk1)
            refine pieceEnd_normal ⟨AnyW.all _ _, ?_⟩
            have HS7 : Hid ((∃ kd, DiceAt z7 w.heap.size D t kd) ∧ GOwn z7 P G v0 ∧ Below w.heap.size w z7 ∧ z7.heap[g0]? = some (.cells #[.int .i64 G.sz, .slice A n c, .slice B m k] 25 (0, 0)) ∧ z7.heap[g5]? = some (.cells e.arr 27 (0, 0))) := Lib.hid (HTURN.out _ _ HS.out HBB.out)
            have HC7 : Hid (z7.heap[g1]? = _) := Lib.hid ((HKK.out g1 (Array.getElem?_eq_some_iff.1 HC.out).1 (fun h => own_neqT HP2.out HC.out (by decide) g1 h rfl)).trans HC.out)
            have HP17 := Lib.hid (own_keepL HP1.out fun q hq => HKK.out q (own_lt HP1.out q hq) (own_twoT HP1.out HP2.out (by decide) q hq))
            obtain ⟨A4, c4, hv4, -⟩ := Row.of_own HP3.out
            subst hv4
            clear HS HC HP1 HP2 HKK HBB HR3
            refine flow_reads (F := AnyW) (fun _ => AnyW.all _ _) (by kernel_rfl) [6] (fuel := 1) (by kernel_rfl) ?_
            simp only [List.map_cons, List.map_nil, pick, List.getD_cons_zero, List.getD_cons_succ]
            repeat (go_big_quiet_step (fail))
            refine wpQuiet_nil ?_
            refine flow_one (F := AnyW) (fun _ _ _ _ _ => AnyW.all _ _) (fun _ => AnyW.all _ _) 7 (by kernel_rfl) (by decide) ?_
            simp only [pick, List.getD_cons_zero, List.getD_cons_succ]
            have hz2 : z7.cell? ⟨g1, 2, none⟩ = some (.slice B1 G.gn.length k1) := (cell_of_row _ _ 2 _ _ _ HC7.out).trans rfl
            have hfz : z7.frozen? ⟨g1, 2, none⟩ = false := by unfold World.frozen?; rw [HC7.out]; simp
            go_wp2_with fail
            refine pieceEnd_normal ⟨AnyW.all _ _, ?_⟩
            refine flow_done (by kernel_rfl) ?_
            go_wp2_with fail
            go_meet
            have hN1 := own_neqT HP17.out HC7.out (by decide); have hN2 := own_neqT HP3.out HC7.out (by decide)
            have hkc : ∀ q, q ≠ g1 → (z7.setCell ⟨g1, 2, none⟩ (.slice A4 (G.gn.length + 1) c4)).heap[q]? = z7.heap[q]? := fun q hq => Below.heap_setCell z7 ⟨g1, 2, none⟩ _ q hq
            exact ⟨⟨G.sz, G.es, G.gn ++ [x9]⟩, A1, _, c1, A4, _, c4, Lib.hid ⟨HTURN.out _ _ HS7.out ((Below.refl _ _).setCell (p := ⟨g1, 2, none⟩) HG1.out _), heap_setCell_same _ _ _ _ _ _ HC7.out, own_rowE (own_keepL HP17.out fun q hq => hkc q (hN1 q hq)), own_rowI (own_keepL (by have h := HP3.out; rwa [← intsV_app] at h) fun q hq => hkc q (hN2 q hq)), HFE.out.1, by show (G.gn ++ [x9]).length ≤ 100000; rw [List.length_append]; have h1 := HGD.out.few.2; have h2 := set_len HGD.out.set HGD.out.hi; simp; omega⟩⟩
        ·
         as_aux_lemma =>
          have hz1 : w5.cell? ⟨g1, 1, none⟩ = some (.slice A1 G.es.length c1) := (cell_of_row _ _ 1 _ _ _ HC1.out).trans rfl
          have HEB : Hid (w5.heap[g5]? = some (.cells e.arr 27 (0, 0))) := Lib.hid HQ.out.2.2.2.2
          have hel := HFE.out.1
          have hrs := HRS.out
          have hvs : e.arr.size = 3 := rfl
          go_wp2_with (first | (refine wpList_load_row rfl 27 (.tmp 7) rfl g5 rfl 27 e.arr (0, 0) _ HEB.out Try.underlying27 rfl e.info ?_) | (at_builtin; (first | rw [fold3n] | rw [fold3]); go_must (refine wpList_app_newK w5 rfl (.tmp 120) (.tmp 122) 22 27 rfl q0 Try.underlying22 edg_info rfl _ G.es.length (rowC Edg.cells G.es) HO1.out rfl 1 e.arr rfl e.ones rfl rfl (by unfold maxLen; omega) (by omega) hrs ?_); intro v4 z7 ho hb hk1 _; have HP3 := Lib.hid ho; have HBB := Lib.hid hb; have HC7 : Hid (z7.heap[g1]? = some (.cells #[.int .i64 G.sz, .slice A1 G.es.length c1, .slice B1 G.gn.length k1] 25 (0, 0))) := Lib.hid ((hk1 g1 (Array.getElem?_eq_some_iff.1 HC1.out).1 (fun h => own_neqT HO1.out HC1.out (by decide) g1 h rfl)).trans HC1.out); have HP27 := Lib.hid (own_keepL HO2.out fun q hq => hk1 q (own_lt HO2.out q hq) (own_twoT HO2.out HO1.out (by decide) q hq)); (obtain ⟨A4, c4, hv4, _⟩ := Row.of_own ho); subst hv4; have hz1 : z7.cell? ⟨g1, 1, none⟩ = some (.slice A1 G.es.length c1) := (cell_of_row _ _ 1 _ _ _ HC7.out).trans rfl; have hfz : z7.frozen? ⟨g1, 1, none⟩ = false := (by unfold World.frozen?; rw [HC7.out]; simp); clear ho hb hk1))
          go_meet
          have hN1 := own_neqT HP3.out HC7.out (by decide); have hN2 := own_neqT HP27.out HC7.out (by decide)
          have hkc : ∀ q, q ≠ g1 → (z7.setCell ⟨g1, 1, none⟩ (.slice A4 (G.es.length + 1) c4)).heap[q]? = z7.heap[q]? := fun q hq => Below.heap_setCell z7 ⟨g1, 1, none⟩ _ q hq
          exact ⟨⟨G.sz, G.es ++ [e], G.gn⟩, A4, _, c4, B1, _, k1, Lib.hid ⟨HTURN.out _ _ HQ.out (HBB.out.trans ((Below.refl _ _).setCell (p := ⟨g1, 1, none⟩) HG1.out _)), heap_setCell_same _ _ _ _ _ _ HC7.out, own_rowE (own_keepL (by have h := HP3.out; rwa [show e.arr.toList = rowC Edg.cells [e] from (by rw [rowC_single, Edg.list]), ← rowC_app] at h) fun q hq => hkc q (hN1 q hq)), own_rowI (own_keepL HP27.out fun q hq => hkc q (hN2 q hq)), by show (G.es ++ [e]).length ≤ 100000; have h1 := HGD.out.len; rw [List.length_append]; simp; omega, HFE.out.2⟩⟩
        ·
         have hz1 : w5.cell? ⟨g1, 1, none⟩ = some (.slice A1 G.es.length c1) := (cell_of_row _ _ 1 _ _ _ HC1.out).trans rfl
         by_cases h0 : G.es.length = 0
         ·
          have b0 : decide ((G.es.length : Int) > 0) = false := decide_eq_false (by omega)
          have b0' : decide ((0 : Int) < (G.es.length : Int)) = false := b0
          have b0n : decide (0 < G.es.length) = false := decide_eq_false (by omega)
          clear h0
          go_wp2_with fail
          go_meet
          exact ⟨G, A1, _, c1, B1, _, k1, Lib.hid ⟨HQ.out, HC1.out, own_rowE HO1.out, own_rowI HO2.out, HFE.out.1, HFE.out.2⟩⟩
         ·
          have b0 : decide ((G.es.length : Int) > 0) = true := decide_eq_true (by omega)
          have b0' : decide ((0 : Int) < (G.es.length : Int)) = true := b0
          have b0n : decide (0 < G.es.length) = true := decide_eq_true (by omega)
          have hpos : 0 < G.es.length := by omega
          have hpos2 : (0 : Int) < (G.es.length : Int) := by omega
          obtain ⟨ga, cap, T, hv, hek⟩ := eblk_of_own HO1.out hpos
          injection hv with hv _ hv2
          subst hv hv2
          obtain ⟨p, r, hpr⟩ : ∃ p r, G.es = p :: r := List.exists_cons_of_length_pos hpos
          have HPR := Lib.hid hpr
          have HGA : Hid (w5.heap[ga]? = some (.cells (.int .i64 p.fr :: .int .i64 p.tu :: .int .i64 p.lv :: (rowC Edg.cells r ++ T)).toArray 27 (0, 0))) := Lib.hid (by have h := hek.at_; rw [hpr] at h; simpa [rowC, Edg.cells] using h)
          have HLOA := Lib.hid hek.lo; have HEK := Lib.hid hek
          have hcl : w5.cell? ⟨ga, 2, none⟩ = some (.int .i64 p.lv) := (cell_of_row _ _ 2 _ _ _ HGA.out).trans (by simp)
          have hfz : w5.frozen? ⟨ga, 2, none⟩ = false := by unfold World.frozen?; rw [HGA.out]; simp
          have HLN := Lib.hid hpr
          clear h0 hpr hek
          generalize hLL : G.es.length = LL at *
          have HLL := Lib.hid hLL
          clear hLL
          go_wp2_with fail
          try go_simp
          try go_wp2_with fail
          go_meet
          have hga : ga ≠ g1 := own_neqT HEK.out.own HC1.out (by decide) ga rfl
          have hgt := own_twoT HO2.out HO1.out (by decide)
          have hkc : ∀ q, q ≠ ga → (w5.setCell ⟨ga, 2, none⟩ (.int .i64 nn)).heap[q]? = w5.heap[q]? := fun q hq => Below.heap_setCell w5 ⟨ga, 2, none⟩ _ q hq
          have hne : EBlk (w5.setCell ⟨ga, 2, none⟩ (.int .i64 nn)) q0 ga LL c1 ((⟨p.fr, p.tu, nn⟩ : Edg) :: r) T := ⟨HLOA.out, by have h : (w5.setCell ⟨ga, 2, none⟩ (.int .i64 nn)).heap[ga]? = _ := heap_setCell_same _ _ _ _ _ _ HGA.out; simpa [rowC, Edg.cells] using h, by rw [← HLL.out, HPR.out]; rfl, HEK.out.room, HEK.out.mx, by have h := HEK.out.size; rw [HPR.out] at h; simpa [rowC, Edg.cells] using h⟩
          exact ⟨⟨G.sz, ⟨p.fr, p.tu, nn⟩ :: r, G.gn⟩, some ⟨ga, 0, none⟩, LL, c1, B1, _, k1, Lib.hid ⟨HTURN.out _ _ HQ.out ((Below.refl _ _).setCell (p := ⟨ga, 2, none⟩) HLOA.out _), (hkc g1 (Ne.symm hga)).trans HC1.out, hne.row, own_rowI (own_keepL HO2.out fun q hq => hkc q (fun h => hgt q hq (by rw [h]; rfl))), by show ((⟨p.fr, p.tu, nn⟩ : Edg) :: r).length ≤ 100000; have h := HFE.out.1; have h2 := HLL.out; rw [HPR.out, List.length_cons] at h2; rw [List.length_cons]; omega, HFE.out.2⟩⟩
        ·
         as_aux_lemma =>
          have hz0 : w5.cell? ⟨g1, 0, none⟩ = some (.int .i64 G.sz) := (cell_of_row _ _ 0 _ _ _ HC1.out).trans rfl
          have hfz : w5.frozen? ⟨g1, 0, none⟩ = false := by unfold World.frozen?; rw [HC1.out]; simp
          go_upto_region 33 with fail
          have hN1 := own_neqT HO1.out HC1.out (by decide); have hN2 := own_neqT HO2.out HC1.out (by decide)
          have hkc : ∀ q, q ≠ g1 → (w5.setCell ⟨g1, 0, none⟩ (.int .i64 64)).heap[q]? = w5.heap[q]? := fun q hq => Below.heap_setCell w5 ⟨g1, 0, none⟩ _ q hq
          have HOD : Hid (∃ (K : Gr) (A2 : Option Addr) (n2 c2 : Nat) (B2 : Option Addr) (m2 k2 : Nat), ((∃ kd, DiceAt (w5.setCell ⟨g1, 0, none⟩ (.int .i64 64)) w.heap.size D t kd) ∧ GOwn (w5.setCell ⟨g1, 0, none⟩ (.int .i64 64)) P G v0 ∧ Below w.heap.size w (w5.setCell ⟨g1, 0, none⟩ (.int .i64 64)) ∧ (w5.setCell ⟨g1, 0, none⟩ (.int .i64 64)).heap[g0]? = some (.cells #[.int .i64 G.sz, .slice A n c, .slice B m k] 25 (0, 0)) ∧ (w5.setCell ⟨g1, 0, none⟩ (.int .i64 64)).heap[g5]? = some (.cells e.arr 27 (0, 0))) ∧ (w5.setCell ⟨g1, 0, none⟩ (.int .i64 64)).heap[g1]? = some (.cells #[.int .i64 K.sz, .slice A2 n2 c2, .slice B2 m2 k2] 25 (0, 0)) ∧ (w5.setCell ⟨g1, 0, none⟩ (.int .i64 64)).ownsRow q0 27 3 (.slice A2 n2 c2) n2 (rowC Edg.cells K.es) ∧ (w5.setCell ⟨g1, 0, none⟩ (.int .i64 64)).ownsRow q0 3 1 (.slice B2 m2 k2) m2 (intsV K.gn) ∧ K.es.length ≤ 100000 ∧ K.gn.length ≤ 100000) := Lib.hid ⟨⟨64, G.es, G.gn⟩, A1, _, c1, B1, _, k1, HTURN.out _ _ HQ.out ((Below.refl _ _).setCell (p := ⟨g1, 0, none⟩) HG1.out _), heap_setCell_same _ _ _ _ _ _ HC1.out, own_keepL HO1.out fun q hq => hkc q (hN1 q hq), own_keepL HO2.out fun q hq => hkc q (hN2 q hq), HFE.out.1, HFE.out.2⟩
          have HZ6 : Hid (q0 ≤ (w5.setCell ⟨g1, 0, none⟩ (.int .i64 64)).heap.size) := Lib.hid (by rw [World.size_setCell]; exact HRS.out)
          clear hN1 hN2 hkc hz0 hfz HO1 HO2 HC1 HQ HRS
          generalize w5.setCell ⟨g1, 0, none⟩ (.int .i64 64) = w6 at *
          go_wp2_with fail
          go_loopw [11] (fun i wx => ∃ a : Nat, a ≤ 9 ∧ i = .int .i64 a ∧ Hid ((∃ (K : Gr) (A2 : Option Addr) (n2 c2 : Nat) (B2 : Option Addr) (m2 k2 : Nat), ((∃ kd, DiceAt wx w.heap.size D t kd) ∧ GOwn wx P G v0 ∧ Below w.heap.size w wx ∧ wx.heap[g0]? = some (.cells #[.int .i64 G.sz, .slice A n c, .slice B m k] 25 (0, 0)) ∧ wx.heap[g5]? = some (.cells e.arr 27 (0, 0))) ∧ wx.heap[g1]? = some (.cells #[.int .i64 K.sz, .slice A2 n2 c2, .slice B2 m2 k2] 25 (0, 0)) ∧ wx.ownsRow q0 27 3 (.slice A2 n2 c2) n2 (rowC Edg.cells K.es) ∧ wx.ownsRow q0 3 1 (.slice B2 m2 k2) m2 (intsV K.gn) ∧ K.es.length ≤ 100000 ∧ K.gn.length ≤ 100000) ∧ q0 ≤ wx.heap.size)) (fun i _ => 9 - (intOf i).toNat)
          case atStart => exact ⟨0, Nat.zero_le _, rfl, Lib.hid ⟨HOD.out, HZ6.out⟩⟩
          case round =>
           clear HOD HZ6
           obtain ⟨a, ha, rfl, HO9⟩ := hrel
           by_cases hlta : a < 9
           ·
            have hlta2 : (a : Int) < 9 := by omega
            go_wp2_with fail
            go_loopw [12] (fun i wy => ∃ b : Nat, b ≤ 64 ∧ i = .int .i64 b ∧ Hid ((∃ (K : Gr) (A2 : Option Addr) (n2 c2 : Nat) (B2 : Option Addr) (m2 k2 : Nat), ((∃ kd, DiceAt wy w.heap.size D t kd) ∧ GOwn wy P G v0 ∧ Below w.heap.size w wy ∧ wy.heap[g0]? = some (.cells #[.int .i64 G.sz, .slice A n c, .slice B m k] 25 (0, 0)) ∧ wy.heap[g5]? = some (.cells e.arr 27 (0, 0))) ∧ wy.heap[g1]? = some (.cells #[.int .i64 K.sz, .slice A2 n2 c2, .slice B2 m2 k2] 25 (0, 0)) ∧ wy.ownsRow q0 27 3 (.slice A2 n2 c2) n2 (rowC Edg.cells K.es) ∧ wy.ownsRow q0 3 1 (.slice B2 m2 k2) m2 (intsV K.gn) ∧ K.es.length ≤ 100000 ∧ K.gn.length ≤ 100000) ∧ q0 ≤ wy.heap.size)) (fun i _ => 64 - (intOf i).toNat)
            case atStart => exact ⟨0, Nat.zero_le _, rfl, HO9⟩
            case round =>
             clear HO9
             obtain ⟨b, hb64, rfl, HO8⟩ := hrel
             obtain ⟨K, A2, n2, c2, B2, m2, k2, hq⟩ := HO8.out.1
             have HS : Hid ((∃ kd, DiceAt wr w.heap.size D t kd) ∧ GOwn wr P G v0 ∧ Below w.heap.size w wr ∧ wr.heap[g0]? = some (.cells #[.int .i64 G.sz, .slice A n c, .slice B m k] 25 (0, 0)) ∧ wr.heap[g5]? = some (.cells e.arr 27 (0, 0))) := Lib.hid hq.1
             have HC : Hid (wr.heap[g1]? = some (.cells #[.int .i64 K.sz, .slice A2 n2 c2, .slice B2 m2 k2] 25 (0, 0))) := Lib.hid hq.2.1
             have HE2 := Lib.hid hq.2.2.1; have HI2 := Lib.hid hq.2.2.2.1; have HKL := Lib.hid hq.2.2.2.2
             have HZ := Lib.hid HO8.out.2
             have hnl : n2 ≤ 100000 := by rw [← ERow.len (own_rowE hq.2.2.1)]; exact hq.2.2.2.2.1
             have HLN2 : Hid (K.es.length = n2) := Lib.hid (ERow.len (own_rowE hq.2.2.1))
             clear hq HO8
             go_upto_region 37 with fail
             obtain ⟨n0, hn0⟩ : ∃ n0, wr.drew.heap.size = n0 := ⟨_, rfl⟩
             refine wp_region_grow (by kernel_rfl) (BN D n0) (BN.refl D n0) (fun _ _ _ => BN.trans) [8, 9, 10] [([0, 1, 2, 3, 4, 5, 6], 7)] (by kernel_rfl) (by kernel_rfl) (by kernel_rfl) ?_
             simp only [List.map_cons, List.map_nil, pick, List.getD_cons_zero, List.getD_cons_succ]
             have hb : Below wr.heap.size wr wr.drew := (Below.refl _ _).drew
             replace HS : Hid ((∃ kd, DiceAt wr.drew w.heap.size D t kd) ∧ GOwn wr.drew P G v0 ∧ Below w.heap.size w wr.drew ∧ wr.drew.heap[g0]? = some (.cells #[.int .i64 G.sz, .slice A n c, .slice B m k] 25 (0, 0)) ∧ wr.drew.heap[g5]? = some (.cells e.arr 27 (0, 0))) := Lib.hid (HTURN.out _ _ HS.out (hb.mono HZ.out))
             replace HC : Hid (wr.drew.heap[g1]? = _) := HC
             replace HE2 := Lib.hid (own_later HE2.out hb); replace HI2 := Lib.hid (own_later HI2.out hb)
             replace HZ : Hid (q0 ≤ wr.drew.heap.size) := HZ
             have HGN : Hid (g1 < n0) := Lib.hid (by rw [← hn0]; exact (Array.getElem?_eq_some_iff.1 HC.out).1)
             have HNN : Hid (n0 ≤ wr.drew.heap.size) := Lib.hid (Nat.le_of_eq hn0.symm)
             clear hb hn0
             generalize wr.drew = z0 at *
             by_cases hltb : b < 64
             ·
              have hltb2 : (b : Int) < 64 := by omega
              have hgn := HGN.out; have hdg := HDG1.out
              have hf1 : ∀ x, (fut (BN D n0) z0 x).cell? ⟨g1, 1, none⟩ = some (.slice A2 n2 c2) := fun x => (cell_of_row _ _ 1 _ _ _ (((fut_ok (BN.refl D n0) z0 x).keep g1 hgn (Ne.symm hdg)).trans HC.out)).trans rfl
              refine wpGrow_cons ?_
              repeat (go_big_quiet_step (fail))
              refine wpQuiet_nil ?_
              clear hf1
              go_wp2_with fail
              refine (next_g w.heap.size D t 2 z0 HS.out.1 (by omega) (by omega)).mono ?_
              rintro e1 z1 ⟨x2, rfl, hx20, hx21, hg⟩
              have HF : Hid (BN D n0 z0 z1) := Lib.hid (BN.but hg.2 HNN.out)
              replace HS : Hid ((∃ kd, DiceAt z1 w.heap.size D t kd) ∧ GOwn z1 P G v0 ∧ Below w.heap.size w z1 ∧ z1.heap[g0]? = some (.cells #[.int .i64 G.sz, .slice A n c, .slice B m k] 25 (0, 0)) ∧ z1.heap[g5]? = some (.cells e.arr 27 (0, 0))) := Lib.hid (HDICE.out _ _ HS.out hg)
              replace HC : Hid (z1.heap[g1]? = _) := Lib.hid ((hg.2.block g1 (Array.getElem?_eq_some_iff.1 HC.out).1 (Ne.symm hdg)).trans HC.out)
              replace HE2 := Lib.hid (own_keepL HE2.out fun q hq => hg.2.block q (own_lt HE2.out q hq) (by have h1 := own_ge HE2.out q hq; have h2 := HDW.out; omega))
              replace HI2 := Lib.hid (own_keepL HI2.out fun q hq => hg.2.block q (own_lt HI2.out q hq) (by have h1 := own_ge HI2.out q hq; have h2 := HDW.out; omega))
              replace HZ : Hid (q0 ≤ z1.heap.size) := Lib.hid (Nat.le_trans HZ.out hg.2.size)
              clear hg HNN HGN
              go_wp2_with fail
              refine pieceEnd_normal ⟨HF.out, ?_⟩
              clear HF
              by_cases hlc : (n2 : Int) < 500 + x2
              ·
               have d1 : decide ((n2 : Int) < 500 + x2) = true := decide_eq_true hlc
               clear hlc
               refine wpGrow_nil ?_
               repeat (go_big_quiet_step (fail))
               refine wpQuiet_nil ?_
               clear d1
               have HWT : Hid (Calls Try.prog 24 #[.agg #[.int .i64 K.sz, .slice A2 n2 c2, .slice B2 m2 k2], .agg #[.int .i64 a, .int .i64 b, .int .i64 1]] z1 (GivesGOE z1 (withG K ⟨a, b, 1⟩))) := Lib.hid (gwith_any K (.agg #[.int .i64 K.sz, .slice A2 n2 c2, .slice B2 m2 k2]) ⟨a, b, 1⟩ z1 ⟨A2, n2, c2, B2, m2, k2, rfl, own_rowE HE2.out, own_rowI HI2.out⟩ HKL.out.1 HKL.out.2)
               have HWF := Lib.hid (with_few K ⟨a, b, 1⟩)
               generalize withG K ⟨a, b, 1⟩ = RW at *
               go_wp2_with (refine wpList_load_row rfl 25 (.tmp 10) rfl g1 rfl 25 #[.int .i64 K.sz, .slice A2 n2 c2, .slice B2 m2 k2] (0, 0) _ HC.out Try.underlying25 rfl gr_size ?_)
               refine HWT.out.mono ?_
               rintro e1 z2 ⟨vy, rfl, hoy, hb⟩
               obtain ⟨ey, gy, rfl, hy1, hy2⟩ := hoy
               obtain ⟨Ay, cy, rfl, -⟩ := Row.of_own hy1
               obtain ⟨By, ky, rfl, -⟩ := Row.of_own hy2
               have HY1 := Lib.hid hy1; have HY2 := Lib.hid hy2
               replace HS : Hid ((∃ kd, DiceAt z2 w.heap.size D t kd) ∧ GOwn z2 P G v0 ∧ Below w.heap.size w z2 ∧ z2.heap[g0]? = some (.cells #[.int .i64 G.sz, .slice A n c, .slice B m k] 25 (0, 0)) ∧ z2.heap[g5]? = some (.cells e.arr 27 (0, 0))) := Lib.hid (HTURN.out _ _ HS.out (hb.mono HZ.out))
               replace HC : Hid (z2.heap[g1]? = _) := Lib.hid ((hb.block g1 (Array.getElem?_eq_some_iff.1 HC.out).1).trans HC.out)
               replace HE2 := Lib.hid (own_later HE2.out hb); replace HI2 := Lib.hid (own_later HI2.out hb)
               have HZ1 := Lib.hid HZ.out
               replace HZ : Hid (q0 ≤ z2.heap.size) := Lib.hid (Nat.le_trans HZ.out hb.size)
               clear hb hy1 hy2 HWT
               go_upto_region 40 with (refine wpList_store_new rfl 25 (.tmp 13) (.tmp 162) rfl 25 _ #[.int .i64 RW.1.sz, .slice Ay RW.1.es.length cy, .slice By RW.1.gn.length ky] rfl rfl gr_size rfl (by simp [Value.oneCell']) ?_)
               have hb := one_new z2 (.cells #[.int .i64 RW.1.sz, .slice Ay RW.1.es.length cy, .slice By RW.1.gn.length ky] 25)
               have HCY : Hid ((z2.alloc (.cells #[.int .i64 RW.1.sz, .slice Ay RW.1.es.length cy, .slice By RW.1.gn.length ky] 25)).heap[z2.heap.size]? = some (.cells #[.int .i64 RW.1.sz, .slice Ay RW.1.es.length cy, .slice By RW.1.gn.length ky] 25 (0, 0))) := Lib.hid (heap_alloc_new _ _)
               replace HS : Hid ((∃ kd, DiceAt (z2.alloc (.cells #[.int .i64 RW.1.sz, .slice Ay RW.1.es.length cy, .slice By RW.1.gn.length ky] 25)) w.heap.size D t kd) ∧ GOwn (z2.alloc (.cells #[.int .i64 RW.1.sz, .slice Ay RW.1.es.length cy, .slice By RW.1.gn.length ky] 25)) P G v0 ∧ Below w.heap.size w (z2.alloc (.cells #[.int .i64 RW.1.sz, .slice Ay RW.1.es.length cy, .slice By RW.1.gn.length ky] 25)) ∧ (z2.alloc (.cells #[.int .i64 RW.1.sz, .slice Ay RW.1.es.length cy, .slice By RW.1.gn.length ky] 25)).heap[g0]? = some (.cells #[.int .i64 G.sz, .slice A n c, .slice B m k] 25 (0, 0)) ∧ (z2.alloc (.cells #[.int .i64 RW.1.sz, .slice Ay RW.1.es.length cy, .slice By RW.1.gn.length ky] 25)).heap[g5]? = some (.cells e.arr 27 (0, 0))) := Lib.hid (HTURN.out _ _ HS.out (hb.mono HZ.out))
               replace HC := Lib.hid ((hb.block g1 (Array.getElem?_eq_some_iff.1 HC.out).1).trans HC.out)
               replace HE2 := Lib.hid (own_later HE2.out hb); replace HI2 := Lib.hid (own_later HI2.out hb)
               replace HY1 := Lib.hid (own_later HY1.out hb); replace HY2 := Lib.hid (own_later HY2.out hb)
               replace HZ : Hid (q0 ≤ (z2.alloc (.cells #[.int .i64 RW.1.sz, .slice Ay RW.1.es.length cy, .slice By RW.1.gn.length ky] 25)).heap.size) := Lib.hid (Nat.le_trans HZ.out hb.size)
               clear hb
               generalize z2.alloc (.cells #[.int .i64 RW.1.sz, .slice Ay RW.1.es.length cy, .slice By RW.1.gn.length ky] 25) = z3 at *
               generalize z2.heap.size = g9 at *
               try dsimp only [Act.put]
               by_cases h0 : RW.2 = 0
               ·
                have d1 : (RW.2 == 0) = true := by rw [h0]; rfl
                clear h0
                go_wp2_with (first | (refine wpList_load_row rfl 25 (.tmp 13) rfl g9 rfl 25 #[.int .i64 RW.1.sz, .slice Ay RW.1.es.length cy, .slice By RW.1.gn.length ky] (0, 0) _ HCY.out Try.underlying25 rfl gr_size ?_) | (refine wpList_store_row rfl 25 (.tmp 10) (.tmp 166) rfl g1 #[.int .i64 RW.1.sz, .slice Ay RW.1.es.length cy, .slice By RW.1.gn.length ky] rfl rfl 25 _ HC.out gr_size rfl (by simp [Value.oneCell']) ?_))
                have hN1 := own_neqT HY1.out HC.out (by decide); have hN2 := own_neqT HY2.out HC.out (by decide)
                have hkc : ∀ q, q ≠ g1 → (z3.setRow g1 #[.int .i64 RW.1.sz, .slice Ay RW.1.es.length cy, .slice By RW.1.gn.length ky]).heap[q]? = z3.heap[q]? := fun q hq => setRow_other _ _ _ _ hq
                exact ⟨⟨b + 1, by omega, by go_num, Lib.hid ⟨⟨RW.1, Ay, _, cy, By, _, ky, HTURN.out _ _ HS.out (below_setRow (Below.refl _ _) HG1.out _), setRow_heap _ _ _ _ _ _ HC.out, own_mono (own_keepL HY1.out fun q hq => hkc q (hN1 q hq)) HZ1.out, own_mono (own_keepL HY2.out fun q hq => hkc q (hN2 q hq)) HZ1.out, HWF.out⟩, Nat.le_trans HZ.out (below_setRow (Below.refl 0 _) (Nat.zero_le _) _).size⟩⟩, by simp [intOf]; omega⟩
               ·
                have d1 : (RW.2 == 0) = false := beq_eq_false_iff_ne.2 h0
                clear h0
                go_wp2_with fail
                exact ⟨⟨b + 1, by omega, by go_num, Lib.hid ⟨⟨K, A2, n2, c2, B2, m2, k2, HS.out, HC.out, HE2.out, HI2.out, HKL.out⟩, HZ.out⟩⟩, by simp [intOf]; omega⟩
              ·
               have d1 : decide ((n2 : Int) < 500 + x2) = false := decide_eq_false hlc
               clear hlc
               refine wpGrow_nil ?_
               repeat (go_big_quiet_step (fail))
               refine wpQuiet_nil ?_
               clear d1
               go_wp2_with fail
               exact ⟨⟨a + 1, by omega, by go_num, Lib.hid ⟨⟨K, A2, n2, c2, B2, m2, k2, HS.out, HC.out, HE2.out, HI2.out, HKL.out⟩, HZ.out⟩⟩, by simp [intOf]; omega⟩
             ·
              have hltb2 : ¬ (b : Int) < 64 := by omega
              refine wpGrow_cons ?_
              repeat (go_big_quiet_step (fail))
              refine wpQuiet_nil ?_
              go_wp2_with fail
              refine pieceEnd_normal ⟨BN.refl _ _ _, ?_⟩
              refine wpGrow_nil ?_
              repeat (go_big_quiet_step (fail))
              refine wpQuiet_nil ?_
              go_wp2_with fail
              exact ⟨⟨a + 1, by omega, by go_num, Lib.hid ⟨⟨K, A2, n2, c2, B2, m2, k2, HS.out, HC.out, HE2.out, HI2.out, HKL.out⟩, HZ.out⟩⟩, by simp [intOf]; omega⟩
           ·
            have hlta2 : ¬ (a : Int) < 9 := by omega
            obtain ⟨K, A2, n2, c2, B2, m2, k2, hq⟩ := HO9.out.1
            have HF := Lib.hid hq
            clear hq
            go_wp2_with fail
            go_meet
            exact ⟨K, A2, n2, c2, B2, m2, k2, Lib.hid ⟨HF.out.1, HF.out.2.1, own_rowE HF.out.2.2.1, own_rowI HF.out.2.2.2.1, HF.out.2.2.2.2⟩⟩
        ·
         as_aux_lemma =>
          have hz1 : w5.cell? ⟨g1, 1, none⟩ = some (.slice A1 G.es.length c1) := (cell_of_row _ _ 1 _ _ _ HC1.out).trans rfl
          by_cases h0 : G.es.length ≤ 1
          ·
           have b0 : decide ((G.es.length : Int) > 1) = false := decide_eq_false (by omega)
           have b0' : decide ((1 : Int) < (G.es.length : Int)) = false := b0
           have b0n : decide (1 < G.es.length) = false := decide_eq_false (by omega)
           clear h0
           go_wp2_with fail
           go_meet
           exact ⟨G, A1, _, c1, B1, _, k1, Lib.hid ⟨HQ.out, HC1.out, own_rowE HO1.out, own_rowI HO2.out, HFE.out.1, HFE.out.2⟩⟩
          ·
           have b0 : decide ((G.es.length : Int) > 1) = true := decide_eq_true (by omega)
           have b0' : decide ((1 : Int) < (G.es.length : Int)) = true := b0
           have b0n : decide (1 < G.es.length) = true := decide_eq_true (by omega)
           have hpos : 0 < G.es.length := by omega
           have hpos2 : (0 : Int) < (G.es.length : Int) := by omega
           have hone : 1 < G.es.length := by omega
           have hone2 : (1 : Int) < (G.es.length : Int) := by omega
           obtain ⟨ga, cap, T, hv, hek⟩ := eblk_of_own HO1.out hpos
           injection hv with hv _ hv2
           subst hv hv2
           obtain ⟨p, pp, r, hpr⟩ : ∃ p p1 r, G.es = p :: p1 :: r := by
            rcases hG : G.es with _ | ⟨p, _ | ⟨p1, r⟩⟩
            ·
             rw [hG] at hpos; exact absurd hpos (by simp)
            ·
             rw [hG] at hone; exact absurd hone (by simp)
            ·
             exact ⟨p, p1, r, rfl⟩
           obtain ⟨p0, p1, p2⟩ := p
           obtain ⟨r0, r1, r2⟩ := pp
           have HPR := Lib.hid hpr
           obtain ⟨X, hX⟩ : ∃ X, rowC Edg.cells r ++ T = X := ⟨_, rfl⟩
           have HXX := Lib.hid hX
           have HGA : Hid (w5.heap[ga]? = some (.cells (.int .i64 p0 :: .int .i64 p1 :: .int .i64 p2 :: .int .i64 r0 :: .int .i64 r1 :: .int .i64 r2 :: X).toArray 27 (0, 0))) := Lib.hid (by have h := hek.at_; rw [hpr] at h; rw [← hX]; simpa [rowC, Edg.cells] using h)
           have HLOA := Lib.hid hek.lo; have HEK := Lib.hid hek
           have hk0 : w5.cell? ⟨ga, 0, none⟩ = some (.int .i64 p0) := (cell_of_row _ _ 0 _ _ _ HGA.out).trans (by simp)
           have hf0 : w5.frozen? ⟨ga, 0, none⟩ = false := by unfold World.frozen?; rw [HGA.out]; simp
           have hk1 : w5.cell? ⟨ga, 1, none⟩ = some (.int .i64 p1) := (cell_of_row _ _ 1 _ _ _ HGA.out).trans (by simp)
           have hf1 : w5.frozen? ⟨ga, 1, none⟩ = false := by unfold World.frozen?; rw [HGA.out]; simp
           have hk2 : w5.cell? ⟨ga, 2, none⟩ = some (.int .i64 p2) := (cell_of_row _ _ 2 _ _ _ HGA.out).trans (by simp)
           have hf2 : w5.frozen? ⟨ga, 2, none⟩ = false := by unfold World.frozen?; rw [HGA.out]; simp
           have hk3 : w5.cell? ⟨ga, 3, none⟩ = some (.int .i64 r0) := (cell_of_row _ _ 3 _ _ _ HGA.out).trans (by simp)
           have hf3 : w5.frozen? ⟨ga, 3, none⟩ = false := by unfold World.frozen?; rw [HGA.out]; simp
           have hk4 : w5.cell? ⟨ga, 4, none⟩ = some (.int .i64 r1) := (cell_of_row _ _ 4 _ _ _ HGA.out).trans (by simp)
           have hf4 : w5.frozen? ⟨ga, 4, none⟩ = false := by unfold World.frozen?; rw [HGA.out]; simp
           have hk5 : w5.cell? ⟨ga, 5, none⟩ = some (.int .i64 r2) := (cell_of_row _ _ 5 _ _ _ HGA.out).trans (by simp)
           have hf5 : w5.frozen? ⟨ga, 5, none⟩ = false := by unfold World.frozen?; rw [HGA.out]; simp
           clear h0 hpr hek hX
           generalize hLL : G.es.length = LL at *
           have HLL := Lib.hid hLL
           clear hLL
           go_upto_region 21 with fail
           have hga : ga ≠ g1 := own_neqT HEK.out.own HC1.out (by decide) ga rfl
           have hga2 : g1 ≠ ga := Ne.symm hga
           skip
           go_region
           clear hk0 hk1 hk2 hk3 hk4 hk5 hf0 hf1 hf2 hf3 hf4 hf5
           obtain ⟨hs1, hs2, hs3⟩ := six_set (d0 := .int .i64 r0) (d1 := .int .i64 r1) (d2 := .int .i64 r2) (d3 := .int .i64 p0) (d4 := .int .i64 p1) (d5 := .int .i64 p2) HGA.out
           have HS1 := Lib.hid hs1; have HS2 := Lib.hid hs2; have HS3 := Lib.hid hs3
           clear hs1 hs2 hs3
           go_wp2_with fail
           go_meet
           generalize ((((((w5.setCell ⟨ga, 0, none⟩ (.int .i64 r0)).setCell ⟨ga, 1, none⟩ (.int .i64 r1)).setCell ⟨ga, 2, none⟩ (.int .i64 r2)).setCell ⟨ga, 3, none⟩ (.int .i64 p0)).setCell ⟨ga, 4, none⟩ (.int .i64 p1)).setCell ⟨ga, 5, none⟩ (.int .i64 p2)).drew = w6 at *
           have hgt := own_twoT HO2.out HO1.out (by decide)
           have hne : EBlk w6 q0 ga LL c1 (⟨r0, r1, r2⟩ :: ⟨p0, p1, p2⟩ :: r) T := ⟨HLOA.out, by rw [HS1.out, ← HXX.out]; simp [rowC, Edg.cells], by rw [← HLL.out, HPR.out]; rfl, HEK.out.room, HEK.out.mx, by have h := HEK.out.size; rw [HPR.out] at h; simpa [rowC, Edg.cells] using h⟩
           exact ⟨⟨G.sz, ⟨r0, r1, r2⟩ :: ⟨p0, p1, p2⟩ :: r, G.gn⟩, some ⟨ga, 0, none⟩, LL, c1, B1, _, k1, Lib.hid ⟨HTURN.out _ _ HQ.out (HS3.out.mono HLOA.out), (HS2.out g1 hga2).trans HC1.out, hne.row, own_rowI (own_keepL HO2.out fun q hq => HS2.out q (fun h => hgt q hq (by rw [h]; rfl))), by show ((⟨r0, r1, r2⟩ : Edg) :: ⟨p0, p1, p2⟩ :: r).length ≤ 100000; have h := HFE.out.1; have h2 := HLL.out; rw [HPR.out, List.length_cons, List.length_cons] at h2; rw [List.length_cons, List.length_cons]; omega, HFE.out.2⟩⟩
       case rest =>
        as_aux_lemma =>
         clear HQ HC1 HG1 HO1 HO2
         obtain ⟨K, A2, n2, c2, B2, m2, k2, HQ⟩ := hcut
         have HB := Lib.hid HQ.out.1.2.2.1; have HV := Lib.hid HQ.out.1.2.1.hold; have HX := Lib.hid HQ.out.1.2.2.2.1; have HY := Lib.hid HQ.out.1.2.2.2.2; have HZ := Lib.hid HQ.out.2.1
         have HK : Hid (GHold wc K (.agg #[.int .i64 K.sz, .slice A2 n2 c2, .slice B2 m2 k2])) := Lib.hid ⟨A2, n2, c2, B2, m2, k2, rfl, HQ.out.2.2.1, HQ.out.2.2.2.1⟩
         have HKE := Lib.hid HQ.out.2.2.2.2
         have HRA : Hid (ERow wc A n c G.es ∧ IRow wc B m k G.gn) := Lib.hid (by
          obtain ⟨_, _, _, _, _, _, he, h1, h2⟩ := HV.out
          rw [HVE.out] at he
          injection he with he
          simp only [Array.mk.injEq, List.cons.injEq, Value.slice.injEq] at he
          obtain ⟨-, ⟨rfl, rfl, rfl⟩, ⟨rfl, rfl, rfl⟩, -⟩ := he
          exact ⟨h1, h2⟩)
         have H1 : Hid (∀ y, Below wc.heap.size wc y → Calls Try.prog 7 #[.agg #[.int .i64 K.sz, .slice A2 n2 c2, .slice B2 m2 k2], .agg e.arr] y (SaysL (.bool true) y)) := Lib.hid fun y hy => agree11_any H.base K _ e y (HK.out.later hy) HKE.out.1 HKE.out.2
         have H2 : Hid (∀ y, Below wc.heap.size wc y → Calls Try.prog 8 #[.agg #[.int .i64 G.sz, .slice A n c, .slice B m k], .agg #[.int .i64 K.sz, .slice A2 n2 c2, .slice B2 m2 k2]] y (SaysL (.bool (sameG G.sz G.es G.gn K.sz K.es K.gn)) y)) := Lib.hid fun y hy => by
          have h1 := H.same G K v0 _ y (HV.out.later hy) (HK.out.later hy) HFE.out.1 HFE.out.2 HKE.out.1 HKE.out.2
          rw [HVE.out] at h1
          exact h1
         have H3 : Hid (∀ y, Below wc.heap.size wc y → Calls Try.prog 9 #[.agg #[.int .i64 G.sz, .slice A n c, .slice B m k], .agg #[.int .i64 K.sz, .slice A2 n2 c2, .slice B2 m2 k2]] y (SaysL (.bool (sameG G.sz G.es G.gn K.sz K.es K.gn)) y)) := Lib.hid fun y hy => gsame_any G.sz A n c G.es B m k G.gn K.sz A2 n2 c2 K.es B2 m2 k2 K.gn y (GRow.later HRA.out.1 hy) (HRA.out.2.later hy) (GRow.later HQ.out.2.2.1 hy) (HQ.out.2.2.2.1.later hy) hnn5 (by rw [← HRA.out.2.len]; exact HFE.out.2)
         generalize sameG G.sz G.es G.gn K.sz K.es K.gn = SG at *
         have hcs : (SG == SG) = true := by simp
         have HBW : Hid (Below wc.heap.size wc wc) := Lib.hid (Below.refl _ _)
         clear HQ HK HV HRA HKE
         go_upto_region 42 with fail
         refine wp_region_grow (by kernel_rfl) Later Later.refl (fun _ _ _ => Later.trans) [13, 14, 15] [([], 0), ([1, 2, 3], 4), ([5, 6, 7, 8, 10, 11], 9), ([], 12)] (by kernel_rfl) (by kernel_rfl) (by kernel_rfl) ?_
         simp only [List.map_cons, List.map_nil, pick, List.getD_cons_zero, List.getD_cons_succ]
         have hb : Below wc.heap.size wc wc.drew := (Below.refl _ _).drew
         replace HX := Lib.hid ((hb.block _ (Array.getElem?_eq_some_iff.1 HX.out).1).trans HX.out)
         replace HY := Lib.hid ((hb.block _ (Array.getElem?_eq_some_iff.1 HY.out).1).trans HY.out)
         replace HZ := Lib.hid ((hb.block _ (Array.getElem?_eq_some_iff.1 HZ.out).1).trans HZ.out)
         replace HB := Lib.hid (HB.out.trans (hb.mono HB.out.size))
         replace HBW := Lib.hid (HBW.out.trans (hb.mono HBW.out.size))
         clear hb
         generalize wc.drew = z0 at *
         refine wpGrow_cons ?_
         refine wpQuiet_nil ?_
         go_wp2_with fail
         refine (HAW.out z0).mono ?_
         rintro e1 z1 ⟨rfl, hb⟩
         have HF : Hid (Later z0 z1) := Lib.hid hb
         replace HX := Lib.hid ((hb.block _ (Array.getElem?_eq_some_iff.1 HX.out).1).trans HX.out)
         replace HY := Lib.hid ((hb.block _ (Array.getElem?_eq_some_iff.1 HY.out).1).trans HY.out)
         replace HZ := Lib.hid ((hb.block _ (Array.getElem?_eq_some_iff.1 HZ.out).1).trans HZ.out)
         replace HB := Lib.hid (HB.out.trans (hb.mono HB.out.size))
         replace HBW := Lib.hid (HBW.out.trans (hb.mono HBW.out.size))
         clear hb
         go_wp2_with fail
         refine pieceEnd_normal ⟨HF.out, ?_⟩
         clear HF
         have hl0 : ∀ x, (loadVar 25 ⟨g0, 0, none⟩).run Try.prog (fut Later z1 x) = .ok (.agg #[.int .i64 G.sz, .slice A n c, .slice B m k]) (fut Later z1 x) := fun x => run_loadVar_row _ g0 25 25 #[.int .i64 G.sz, .slice A n c, .slice B m k] (0, 0) _ (((fut_ok Later.refl z1 x).block _ (Array.getElem?_eq_some_iff.1 HX.out).1).trans HX.out) Try.underlying25 rfl gr_size
         have hl1 : ∀ x, (loadVar 27 ⟨g5, 0, none⟩).run Try.prog (fut Later z1 x) = .ok (.agg e.arr) (fut Later z1 x) := fun x => run_loadVar_row _ g5 27 27 e.arr (0, 0) _ (((fut_ok Later.refl z1 x).block _ (Array.getElem?_eq_some_iff.1 HY.out).1).trans HY.out) Try.underlying27 rfl e.info
         have hl2 : ∀ x, (loadVar 25 ⟨g1, 0, none⟩).run Try.prog (fut Later z1 x) = .ok (.agg #[.int .i64 K.sz, .slice A2 n2 c2, .slice B2 m2 k2]) (fut Later z1 x) := fun x => run_loadVar_row _ g1 25 25 #[.int .i64 K.sz, .slice A2 n2 c2, .slice B2 m2 k2] (0, 0) _ (((fut_ok Later.refl z1 x).block _ (Array.getElem?_eq_some_iff.1 HZ.out).1).trans HZ.out) Try.underlying25 rfl gr_size
         refine wpGrow_cons ?_
         repeat (first | (refine wpQuiet_load rfl 25 (.tmp 6) rfl ⟨g0, 0, none⟩ rfl (.agg #[.int .i64 G.sz, .slice A n c, .slice B m k]) (fun w' h => by obtain ⟨x, rfl⟩ := h; exact hl0 x) ?_; simp only [Act.put, List.setIfInBounds_toArray, List.set_cons_succ, List.set_cons_zero]) | (refine wpQuiet_load rfl 27 (.tmp 7) rfl ⟨g5, 0, none⟩ rfl (.agg e.arr) (fun w' h => by obtain ⟨x, rfl⟩ := h; exact hl1 x) ?_; simp only [Act.put, List.setIfInBounds_toArray, List.set_cons_succ, List.set_cons_zero]) | (refine wpQuiet_load rfl 25 (.tmp 10) rfl ⟨g1, 0, none⟩ rfl (.agg #[.int .i64 K.sz, .slice A2 n2 c2, .slice B2 m2 k2]) (fun w' h => by obtain ⟨x, rfl⟩ := h; exact hl2 x) ?_; simp only [Act.put, List.setIfInBounds_toArray, List.set_cons_succ, List.set_cons_zero]) | go_big_quiet_step (fail))
         refine wpQuiet_nil ?_
         clear hl0 hl1 hl2
         go_wp2_with fail
         refine (H1.out z1 HBW.out).mono ?_
         rintro e1 z2 ⟨rfl, hb⟩
         have HF : Hid (Later z1 z2) := Lib.hid hb
         replace HX := Lib.hid ((hb.block _ (Array.getElem?_eq_some_iff.1 HX.out).1).trans HX.out)
         replace HY := Lib.hid ((hb.block _ (Array.getElem?_eq_some_iff.1 HY.out).1).trans HY.out)
         replace HZ := Lib.hid ((hb.block _ (Array.getElem?_eq_some_iff.1 HZ.out).1).trans HZ.out)
         replace HB := Lib.hid (HB.out.trans (hb.mono HB.out.size))
         replace HBW := Lib.hid (HBW.out.trans (hb.mono HBW.out.size))
         clear hb
         go_wp2_with fail
         refine pieceEnd_normal ⟨HF.out, ?_⟩
         clear HF
         have hl0 : ∀ x, (loadVar 25 ⟨g0, 0, none⟩).run Try.prog (fut Later z2 x) = .ok (.agg #[.int .i64 G.sz, .slice A n c, .slice B m k]) (fut Later z2 x) := fun x => run_loadVar_row _ g0 25 25 #[.int .i64 G.sz, .slice A n c, .slice B m k] (0, 0) _ (((fut_ok Later.refl z2 x).block _ (Array.getElem?_eq_some_iff.1 HX.out).1).trans HX.out) Try.underlying25 rfl gr_size
         have hl1 : ∀ x, (loadVar 27 ⟨g5, 0, none⟩).run Try.prog (fut Later z2 x) = .ok (.agg e.arr) (fut Later z2 x) := fun x => run_loadVar_row _ g5 27 27 e.arr (0, 0) _ (((fut_ok Later.refl z2 x).block _ (Array.getElem?_eq_some_iff.1 HY.out).1).trans HY.out) Try.underlying27 rfl e.info
         have hl2 : ∀ x, (loadVar 25 ⟨g1, 0, none⟩).run Try.prog (fut Later z2 x) = .ok (.agg #[.int .i64 K.sz, .slice A2 n2 c2, .slice B2 m2 k2]) (fut Later z2 x) := fun x => run_loadVar_row _ g1 25 25 #[.int .i64 K.sz, .slice A2 n2 c2, .slice B2 m2 k2] (0, 0) _ (((fut_ok Later.refl z2 x).block _ (Array.getElem?_eq_some_iff.1 HZ.out).1).trans HZ.out) Try.underlying25 rfl gr_size
         refine wpGrow_cons ?_
         repeat (first | (refine wpQuiet_load rfl 25 (.tmp 6) rfl ⟨g0, 0, none⟩ rfl (.agg #[.int .i64 G.sz, .slice A n c, .slice B m k]) (fun w' h => by obtain ⟨x, rfl⟩ := h; exact hl0 x) ?_; simp only [Act.put, List.setIfInBounds_toArray, List.set_cons_succ, List.set_cons_zero]) | (refine wpQuiet_load rfl 27 (.tmp 7) rfl ⟨g5, 0, none⟩ rfl (.agg e.arr) (fun w' h => by obtain ⟨x, rfl⟩ := h; exact hl1 x) ?_; simp only [Act.put, List.setIfInBounds_toArray, List.set_cons_succ, List.set_cons_zero]) | (refine wpQuiet_load rfl 25 (.tmp 10) rfl ⟨g1, 0, none⟩ rfl (.agg #[.int .i64 K.sz, .slice A2 n2 c2, .slice B2 m2 k2]) (fun w' h => by obtain ⟨x, rfl⟩ := h; exact hl2 x) ?_; simp only [Act.put, List.setIfInBounds_toArray, List.set_cons_succ, List.set_cons_zero]) | go_big_quiet_step (fail))
         refine wpQuiet_nil ?_
         clear hl0 hl1 hl2
         go_wp2_with fail
         refine (H2.out z2 HBW.out).mono ?_
         rintro e1 z3 ⟨rfl, hb⟩
         have HF : Hid (Later z2 z3) := Lib.hid hb
         replace HX := Lib.hid ((hb.block _ (Array.getElem?_eq_some_iff.1 HX.out).1).trans HX.out)
         replace HY := Lib.hid ((hb.block _ (Array.getElem?_eq_some_iff.1 HY.out).1).trans HY.out)
         replace HZ := Lib.hid ((hb.block _ (Array.getElem?_eq_some_iff.1 HZ.out).1).trans HZ.out)
         replace HB := Lib.hid (HB.out.trans (hb.mono HB.out.size))
         replace HBW := Lib.hid (HBW.out.trans (hb.mono HBW.out.size))
         clear hb
         go_wp2_with fail
         refine pieceEnd_normal ⟨HF.out, ?_⟩
         clear HF
         refine wpGrow_cons ?_
         refine wpQuiet_nil ?_
         go_wp2_with fail
         refine (H3.out z3 HBW.out).mono ?_
         rintro e1 z4 ⟨rfl, hb⟩
         have HF : Hid (Later z3 z4) := Lib.hid hb
         replace HX := Lib.hid ((hb.block _ (Array.getElem?_eq_some_iff.1 HX.out).1).trans HX.out)
         replace HY := Lib.hid ((hb.block _ (Array.getElem?_eq_some_iff.1 HY.out).1).trans HY.out)
         replace HZ := Lib.hid ((hb.block _ (Array.getElem?_eq_some_iff.1 HZ.out).1).trans HZ.out)
         replace HB := Lib.hid (HB.out.trans (hb.mono HB.out.size))
         replace HBW := Lib.hid (HBW.out.trans (hb.mono HBW.out.size))
         clear hb
         go_wp2_with fail
         refine pieceEnd_normal ⟨HF.out, ?_⟩
         clear HF
         refine wpGrow_nil ?_
         repeat (go_big_quiet_step (fail))
         refine wpQuiet_nil ?_
         go_wp2_with fail
         go_ret
         exact ⟨rfl, HB.out⟩
 ·
  have gd : decide (tn ≤ 400) = false := decide_eq_false hn
  go_wp2_with fail
  clear gd
  refine (HAW.out w).mono ?_
  rintro e w1 ⟨rfl, hb⟩
  have HB := Lib.hid hb; clear hb
  go_wp2_with fail
  go_ret
  exact ⟨rfl, HB.out⟩
end Go.Proofs.Ytnmpbjgccbnomaa
