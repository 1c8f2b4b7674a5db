import Derived.Test.YtnmpbjgccbnomaaPackAJ
import Derived.Test.YtnmpbjgccbnomaaPackAI
import Derived.Test.YtnmpbjgccbnomaaGWithP
import Derived.Test.YtnmpbjgccbnomaaPackAC
import Derived.Test.YtnmpbjgccbnomaaPackAH
import Derived.Test.YtnmpbjgccbnomaaPackAG
import Derived.Test.YtnmpbjgccbnomaaPackAD
import Derived.Test.YtnmpbjgccbnomaaPackAB
import Derived.Deep.CutBlock
import Derived.Deep.DeepCutAuto
/- The law of layer 11 on one graph, over any program that gives what layer 11 asks. -/
namespace Go.Proofs.Ytnmpbjgccbnomaa
open Go.RowKit
/-- What the program's functions of layer 11 give. -/
structure GraphC : Prop where
  check : ∀ (G : Gr) (v : Value) (w : World), GHold w G v → G.es.length ≤ 100000 → G.gn.length ≤ 100000 → Calls Try.prog 27 #[v] w (SaysL (.int .i64 (checkG G)) w)
  with_ : ∀ (G : Gr) (v : Value) (e : Edg) (w : World), GHold w G v → G.es.length ≤ 100000 → G.gn.length ≤ 100000 → Calls Try.prog 25 #[v, .agg e.arr] w (GivesGE w (withG G e))
  without : ∀ (G : Gr) (v : Value) (fr tu : Int) (w : World), GHold w G v → G.es.length ≤ 100000 → G.gn.length ≤ 100000 → Calls Try.prog 26 #[v, .int .i64 fr, .int .i64 tu] w (GivesGE w (withoutG G fr tu))
  out : ∀ (G : Gr) (v : Value) (key : Int) (w : World), GHold w G v → Good11 G → Calls Try.prog 16 #[v, .int .i64 key] w (GivesI w (outS G.es key))
  in_ : ∀ (G : Gr) (v : Value) (key : Int) (w : World), GHold w G v → Good11 G → Calls Try.prog 18 #[v, .int .i64 key] w (GivesI w (inS G.es key))
  level : ∀ (G : Gr) (v : Value) (lv : Int) (w : World), GHold w G v → Good11 G → Calls Try.prog 20 #[v, .int .i64 lv] w (GivesG w (levelG G lv))
/-- .. and its Same. -/
structure GraphS : Prop where
  base : GraphC
  same : ∀ (G K : Gr) (v u : Value) (w : World), GHold w G v → GHold w K u → G.es.length ≤ 100000 → G.gn.length ≤ 100000 → K.es.length ≤ 100000 → K.gn.length ≤ 100000 → Calls Try.prog 8 #[v, u] w (SaysL (.bool (sameG G.sz G.es G.gn K.sz K.es K.gn)) w)
theorem set_at {l : List Int} {z : Int} (h : setB l z = true) {i : Nat} (hi : i < l.length) : 0 ≤ l.getD i 0 ∧ l.getD i 0 < z ∧ (0 < i → l.getD (i - 1) 0 < l.getD i 0) := by
  unfold setB at h
  rw [List.all_eq_true] at h
  have h1 := h i (List.mem_range.2 hi)
  unfold okSet at h1
  rw [Bool.and_eq_true, Bool.and_eq_true, Bool.or_eq_true, decide_eq_true_eq, decide_eq_true_eq, decide_eq_true_eq, decide_eq_true_eq] at h1
  exact ⟨h1.1, h1.2.1, fun h0 => h1.2.2.elim (fun q => by omega) id⟩
theorem set_len {l : List Int} {z : Int} (h : setB l z = true) (hz : z ≤ 64) : l.length ≤ 64 := by
  have hk : ∀ i, i < l.length → (i : Int) ≤ l.getD i 0 ∧ l.getD i 0 < z := by
    intro i
    induction i with
    | zero =>
      intro hi
      have := set_at h hi
      exact ⟨by omega, this.2.1⟩
    | succ i ih =>
      intro hi
      have h1 := ih (by omega)
      have h2 := set_at h hi
      exact ⟨by have := h2.2.2 (by omega); rw [Nat.add_sub_cancel] at this; omega, h2.2.1⟩
  rcases Nat.eq_zero_or_pos l.length with h0 | h0
  · omega
  · have := hk (l.length - 1) (by omega)
    omega
theorem sameEs_self (l : List Edg) : sameEs l l = true := sameEs_yes fun _ _ => (sameE_iff _ _).2 rfl
theorem sameG_self (G : Gr) : sameG G.sz G.es G.gn G.sz G.es G.gn = true := by
  unfold sameG
  rw [if_pos rfl, if_pos rfl, if_pos (sameIB_self _), sameEs_self]
theorem Good11.few {G : Gr} (h : Good11 G) : G.es.length ≤ 100000 ∧ G.gn.length ≤ 100000 := ⟨Nat.le_trans h.len (by decide), Nat.le_trans (set_len h.set h.hi) (by decide)⟩
theorem with_few (G : Gr) (e : Edg) : (withG G e).1.es.length ≤ 100000 ∧ (withG G e).1.gn.length ≤ 100000 := by
  by_cases h : (withG G e).2 = 0
  · exact (with_good h).2.1.few
  · rw [with_zero h]; exact ⟨Nat.zero_le _, Nat.zero_le _⟩
theorem without_few {G : Gr} (fr tu : Int) (h1 : G.es.length ≤ 100000) (h2 : G.gn.length ≤ 100000) : (withoutG G fr tu).1.es.length ≤ 100000 ∧ (withoutG G fr tu).1.gn.length ≤ 100000 := by
  unfold withoutG
  split
  · exact ⟨Nat.zero_le _, Nat.zero_le _⟩
  · split
    · exact ⟨by simp only [List.length_append, List.length_take, List.length_drop]; omega, h2⟩
    · exact ⟨Nat.zero_le _, Nat.zero_le _⟩
set_option maxRecDepth 100000 in
set_option maxHeartbeats 4000000 in
theorem same11_any (G : Gr) (v u : Value) (x : Int) (w : World) (h : GHold w G v) (h2 : GHold w G u) (he : G.es.length ≤ 100000) (hg : G.gn.length ≤ 100000) : Calls Try.prog 31 #[v, u, .int .i64 x, .int .i64 x] w (SaysL (.bool true) w) := by
  obtain ⟨A, n, c, B, m, k, rfl, ha, hb⟩ := h
  obtain ⟨A2, n2, c2, B2, m2, k2, rfl, ha2, hb2⟩ := h2
  have hn : n ≤ 100000 := by rw [← ERow.len ha]; exact he
  have hm : m ≤ 100000 := by rw [← hb.len]; exact hg
  have HB : Hid (Below w.heap.size w ((w.alloc (.cells #[.int .i64 G.sz, .slice A n c, .slice B m k] 25)).alloc (.cells #[.int .i64 G.sz, .slice A2 n2 c2, .slice B2 m2 k2] 25))) := Lib.hid ((one_new w _).trans ((one_new _ _).mono (by simp)))
  have HX : Hid (((w.alloc (.cells #[.int .i64 G.sz, .slice A n c, .slice B m k] 25)).alloc (.cells #[.int .i64 G.sz, .slice A2 n2 c2, .slice B2 m2 k2] 25)).heap[w.heap.size]? = some (.cells #[.int .i64 G.sz, .slice A n c, .slice B m k] 25 (0, 0))) := Lib.hid ((Below.heap_alloc _ _ _ (by simp)).trans (heap_alloc_new _ _))
  have HY : Hid (((w.alloc (.cells #[.int .i64 G.sz, .slice A n c, .slice B m k] 25)).alloc (.cells #[.int .i64 G.sz, .slice A2 n2 c2, .slice B2 m2 k2] 25)).heap[w.heap.size + 1]? = some (.cells #[.int .i64 G.sz, .slice A2 n2 c2, .slice B2 m2 k2] 25 (0, 0))) := Lib.hid (heap_alloc2_new _ _ _)
  have HS := Lib.hid (gsame_any G.sz A n c G.es B m k G.gn G.sz A2 n2 c2 G.es B2 m2 k2 G.gn ((w.alloc (.cells #[.int .i64 G.sz, .slice A n c, .slice B m k] 25)).alloc (.cells #[.int .i64 G.sz, .slice A2 n2 c2, .slice B2 m2 k2] 25)) (GRow.later ha HB.out) (hb.later HB.out) (GRow.later ha2 HB.out) (hb2.later HB.out) hn hm)
  rw [sameG_self] at HS
  clear ha hb ha2 hb2
  go_enter Try.func31, Try.ntmps31
  go_upto_region 1 with fail
  generalize ((w.alloc (.cells #[.int .i64 G.sz, .slice A n c, .slice B m k] 25)).alloc (.cells #[.int .i64 G.sz, .slice A2 n2 c2, .slice B2 m2 k2] 25)) = y0 at *
  go_wp2_with (first | (refine wpList_load_rowG rfl 25 (.tmp 4) rfl w.heap.size rfl 25 #[.int .i64 G.sz, .slice A n c, .slice B m k] (0, 0) _ HX.out Try.underlying25 rfl gr_size ?_) | (refine wpList_load_rowG rfl 25 (.tmp 5) rfl (w.heap.size + 1) rfl 25 #[.int .i64 G.sz, .slice A2 n2 c2, .slice B2 m2 k2] (0, 0) _ HY.out Try.underlying25 rfl gr_size ?_))
  refine HS.out.mono ?_
  rintro e w1 ⟨rfl, hb⟩
  have HB1 := Lib.hid (HB.out.trans (hb.mono HB.out.size))
  clear hb HS
  go_wp2_with fail
  go_ret
  exact ⟨rfl, HB1.out⟩
set_option maxRecDepth 100000 in
set_option maxHeartbeats 4000000 in
theorem agree11_any (H : GraphC) (G : Gr) (v : Value) (e : Edg) (w : World) (h : GHold w G v) (he : G.es.length ≤ 100000) (hg : G.gn.length ≤ 100000) : Calls Try.prog 7 #[v, .agg e.arr] w (SaysL (.bool true) w) := by
  have HGH := Lib.hid h
  obtain ⟨A, n, c, B, m, k, rfl, -, -⟩ := h
  have HB : Hid (Below w.heap.size w ((w.alloc (.cells #[.int .i64 G.sz, .slice A n c, .slice B m k] 25)).alloc (.cells e.arr 27))) := Lib.hid ((one_new w _).trans ((one_new _ _).mono (by simp)))
  have HX : Hid (((w.alloc (.cells #[.int .i64 G.sz, .slice A n c, .slice B m k] 25)).alloc (.cells e.arr 27)).heap[w.heap.size]? = some (.cells #[.int .i64 G.sz, .slice A n c, .slice B m k] 25 (0, 0))) := Lib.hid ((Below.heap_alloc _ _ _ (by simp)).trans (heap_alloc_new _ _))
  have HY : Hid (((w.alloc (.cells #[.int .i64 G.sz, .slice A n c, .slice B m k] 25)).alloc (.cells e.arr 27)).heap[w.heap.size + 1]? = some (.cells e.arr 27 (0, 0))) := Lib.hid (heap_alloc2_new _ _ _)
  have HWF := Lib.hid (with_few G e); have HOF := Lib.hid (without_few e.fr e.tu he hg)
  have H1 : Hid (∀ y, Below w.heap.size w y → Calls Try.prog 25 #[.agg #[.int .i64 G.sz, .slice A n c, .slice B m k], .agg e.arr] y (GivesGE y (withG G e))) := Lib.hid fun y hy => H.with_ G _ e y (HGH.out.later hy) he hg
  have H2 : Hid (∀ y, Below w.heap.size w y → Calls Try.prog 24 #[.agg #[.int .i64 G.sz, .slice A n c, .slice B m k], .agg e.arr] y (GivesGE y (withG G e))) := Lib.hid fun y hy => (gwith_any G _ e y (HGH.out.later hy) he hg).mono fun _ _ h => h.weak
  have H3 : Hid (∀ y, Below w.heap.size w y → Calls Try.prog 26 #[.agg #[.int .i64 G.sz, .slice A n c, .slice B m k], .int .i64 e.fr, .int .i64 e.tu] y (GivesGE y (withoutG G e.fr e.tu))) := Lib.hid fun y hy => H.without G _ e.fr e.tu y (HGH.out.later hy) he hg
  have H4 : Hid (∀ y, Below w.heap.size w y → Calls Try.prog 29 #[.agg #[.int .i64 G.sz, .slice A n c, .slice B m k], .int .i64 e.fr, .int .i64 e.tu] y (GivesGE y (withoutG G e.fr e.tu))) := Lib.hid fun y hy => (gwithout_any G _ e.fr e.tu y (HGH.out.later hy) he hg).mono fun _ _ h => h.weak
  have H5 : Hid (∀ y, Below w.heap.size w y → Calls Try.prog 27 #[.agg #[.int .i64 G.sz, .slice A n c, .slice B m k]] y (SaysL (.int .i64 (checkG G)) y)) := Lib.hid fun y hy => H.check G _ y (HGH.out.later hy) he hg
  have H6 : Hid (∀ y, Below w.heap.size w y → Calls Try.prog 30 #[.agg #[.int .i64 G.sz, .slice A n c, .slice B m k]] y (SaysL (.int .i64 (checkG G)) y)) := Lib.hid fun y hy => gcheck_any G _ y (HGH.out.later hy) he hg
  generalize withG G e = RW at *
  generalize withoutG G e.fr e.tu = RO at *
  generalize checkG G = CG at *
  clear he hg HGH H
  go_enter Try.func7, Try.ntmps7
  go_upto_region 1 with fail
  generalize ((w.alloc (.cells #[.int .i64 G.sz, .slice A n c, .slice B m k] 25)).alloc (.cells e.arr 27)) = y0 at *
  have HSX : Hid (w.heap.size + 1 < y0.heap.size) := Lib.hid (Array.getElem?_eq_some_iff.1 HY.out).1
  go_wp2_with (first | (refine wpList_load_row rfl 25 (.tmp 2) rfl w.heap.size rfl 25 #[.int .i64 G.sz, .slice A n c, .slice B m k] (0, 0) _ HX.out Try.underlying25 rfl gr_size ?_) | (refine wpList_load_row rfl 27 (.tmp 3) rfl (w.heap.size + 1) rfl 27 e.arr (0, 0) _ HY.out Try.underlying27 rfl e.info ?_))
  refine (H1.out y0 HB.out).mono ?_
  rintro e1 a0 ⟨v0, rfl, hv, hb⟩
  have HV0 := Lib.hid hv
  obtain ⟨A0, n0, c0, B0, m0, k0, rfl, -, -⟩ := hv
  have hsx : w.heap.size + 1 < y0.heap.size := HSX.out
  replace HX := Lib.hid ((hb.block _ (by omega)).trans HX.out); replace HY := Lib.hid ((hb.block _ (by omega)).trans HY.out)
  replace HB := Lib.hid (HB.out.trans (hb.mono HB.out.size))
  replace HSX : Hid (w.heap.size + 1 < a0.heap.size) := Lib.hid (Nat.lt_of_lt_of_le hsx hb.size)
  clear hb hsx
  go_upto_region 2 with (refine wpList_store_new rfl 25 (.tmp 5) (.tmp 17) rfl 25 _ #[.int .i64 RW.1.sz, .slice A0 n0 c0, .slice B0 m0 k0] rfl rfl gr_size rfl (by simp [Value.oneCell']) ?_)
  have hb := one_new a0 (.cells #[.int .i64 RW.1.sz, .slice A0 n0 c0, .slice B0 m0 k0] 25)
  have HC0 : Hid ((a0.alloc (.cells #[.int .i64 RW.1.sz, .slice A0 n0 c0, .slice B0 m0 k0] 25)).heap[a0.heap.size]? = some (.cells #[.int .i64 RW.1.sz, .slice A0 n0 c0, .slice B0 m0 k0] 25 (0, 0))) := Lib.hid (heap_alloc_new _ _)
  replace HV0 := Lib.hid (GHold.later HV0.out hb)
  have hsx : w.heap.size + 1 < a0.heap.size := HSX.out
  replace HX := Lib.hid ((hb.block _ (by omega)).trans HX.out); replace HY := Lib.hid ((hb.block _ (by omega)).trans HY.out)
  replace HB := Lib.hid (HB.out.trans (hb.mono HB.out.size))
  replace HSX : Hid (w.heap.size + 1 < (a0.alloc (.cells #[.int .i64 RW.1.sz, .slice A0 n0 c0, .slice B0 m0 k0] 25)).heap.size) := Lib.hid (Nat.lt_of_lt_of_le hsx hb.size)
  clear hb hsx
  generalize a0.alloc (.cells #[.int .i64 RW.1.sz, .slice A0 n0 c0, .slice B0 m0 k0] 25) = b0 at *
  generalize a0.heap.size = g0 at *
  try dsimp only [Act.put]
  clear H1
  go_wp2_with (first | (refine wpList_load_row rfl 25 (.tmp 2) rfl w.heap.size rfl 25 #[.int .i64 G.sz, .slice A n c, .slice B m k] (0, 0) _ HX.out Try.underlying25 rfl gr_size ?_) | (refine wpList_load_row rfl 27 (.tmp 3) rfl (w.heap.size + 1) rfl 27 e.arr (0, 0) _ HY.out Try.underlying27 rfl e.info ?_))
  refine (H2.out b0 HB.out).mono ?_
  rintro e1 a1 ⟨v1, rfl, hv, hb⟩
  have HV1 := Lib.hid hv
  obtain ⟨A1, n1, c1, B1, m1, k1, rfl, -, -⟩ := hv
  have hsx : w.heap.size + 1 < b0.heap.size := HSX.out
  replace HX := Lib.hid ((hb.block _ (by omega)).trans HX.out); replace HY := Lib.hid ((hb.block _ (by omega)).trans HY.out)
  replace HC0 := Lib.hid ((hb.block _ (Array.getElem?_eq_some_iff.1 HC0.out).1).trans HC0.out); replace HV0 := Lib.hid (GHold.later HV0.out hb)
  replace HB := Lib.hid (HB.out.trans (hb.mono HB.out.size))
  replace HSX : Hid (w.heap.size + 1 < a1.heap.size) := Lib.hid (Nat.lt_of_lt_of_le hsx hb.size)
  clear hb hsx
  go_upto_region 3 with (refine wpList_store_new rfl 25 (.tmp 7) (.tmp 23) rfl 25 _ #[.int .i64 RW.1.sz, .slice A1 n1 c1, .slice B1 m1 k1] rfl rfl gr_size rfl (by simp [Value.oneCell']) ?_)
  have hb := one_new a1 (.cells #[.int .i64 RW.1.sz, .slice A1 n1 c1, .slice B1 m1 k1] 25)
  have HC1 : Hid ((a1.alloc (.cells #[.int .i64 RW.1.sz, .slice A1 n1 c1, .slice B1 m1 k1] 25)).heap[a1.heap.size]? = some (.cells #[.int .i64 RW.1.sz, .slice A1 n1 c1, .slice B1 m1 k1] 25 (0, 0))) := Lib.hid (heap_alloc_new _ _)
  replace HV1 := Lib.hid (GHold.later HV1.out hb)
  have hsx : w.heap.size + 1 < a1.heap.size := HSX.out
  replace HX := Lib.hid ((hb.block _ (by omega)).trans HX.out); replace HY := Lib.hid ((hb.block _ (by omega)).trans HY.out)
  replace HC0 := Lib.hid ((hb.block _ (Array.getElem?_eq_some_iff.1 HC0.out).1).trans HC0.out); replace HV0 := Lib.hid (GHold.later HV0.out hb)
  replace HB := Lib.hid (HB.out.trans (hb.mono HB.out.size))
  replace HSX : Hid (w.heap.size + 1 < (a1.alloc (.cells #[.int .i64 RW.1.sz, .slice A1 n1 c1, .slice B1 m1 k1] 25)).heap.size) := Lib.hid (Nat.lt_of_lt_of_le hsx hb.size)
  clear hb hsx
  generalize a1.alloc (.cells #[.int .i64 RW.1.sz, .slice A1 n1 c1, .slice B1 m1 k1] 25) = b1 at *
  generalize a1.heap.size = g1 at *
  try dsimp only [Act.put]
  clear H2
  have hy0 : b1.cell? ⟨w.heap.size + 1, 0, none⟩ = some (.int .i64 e.fr) := (cell_of_row _ _ 0 _ _ _ HY.out).trans rfl
  have hy1 : b1.cell? ⟨w.heap.size + 1, 1, none⟩ = some (.int .i64 e.tu) := (cell_of_row _ _ 1 _ _ _ HY.out).trans rfl
  go_wp2_with (refine wpList_load_row rfl 25 (.tmp 2) rfl w.heap.size rfl 25 #[.int .i64 G.sz, .slice A n c, .slice B m k] (0, 0) _ HX.out Try.underlying25 rfl gr_size ?_)
  clear hy0 hy1
  refine (H3.out b1 HB.out).mono ?_
  rintro e1 a2 ⟨v2, rfl, hv, hb⟩
  have HV2 := Lib.hid hv
  obtain ⟨A2, n2, c2, B2, m2, k2, rfl, -, -⟩ := hv
  have hsx : w.heap.size + 1 < b1.heap.size := HSX.out
  replace HX := Lib.hid ((hb.block _ (by omega)).trans HX.out); replace HY := Lib.hid ((hb.block _ (by omega)).trans HY.out)
  replace HC0 := Lib.hid ((hb.block _ (Array.getElem?_eq_some_iff.1 HC0.out).1).trans HC0.out); replace HV0 := Lib.hid (GHold.later HV0.out hb)
  replace HC1 := Lib.hid ((hb.block _ (Array.getElem?_eq_some_iff.1 HC1.out).1).trans HC1.out); replace HV1 := Lib.hid (GHold.later HV1.out hb)
  replace HB := Lib.hid (HB.out.trans (hb.mono HB.out.size))
  replace HSX : Hid (w.heap.size + 1 < a2.heap.size) := Lib.hid (Nat.lt_of_lt_of_le hsx hb.size)
  clear hb hsx
  go_upto_region 4 with (refine wpList_store_new rfl 25 (.tmp 9) (.tmp 32) rfl 25 _ #[.int .i64 RO.1.sz, .slice A2 n2 c2, .slice B2 m2 k2] rfl rfl gr_size rfl (by simp [Value.oneCell']) ?_)
  have hb := one_new a2 (.cells #[.int .i64 RO.1.sz, .slice A2 n2 c2, .slice B2 m2 k2] 25)
  have HC2 : Hid ((a2.alloc (.cells #[.int .i64 RO.1.sz, .slice A2 n2 c2, .slice B2 m2 k2] 25)).heap[a2.heap.size]? = some (.cells #[.int .i64 RO.1.sz, .slice A2 n2 c2, .slice B2 m2 k2] 25 (0, 0))) := Lib.hid (heap_alloc_new _ _)
  replace HV2 := Lib.hid (GHold.later HV2.out hb)
  have hsx : w.heap.size + 1 < a2.heap.size := HSX.out
  replace HX := Lib.hid ((hb.block _ (by omega)).trans HX.out); replace HY := Lib.hid ((hb.block _ (by omega)).trans HY.out)
  replace HC0 := Lib.hid ((hb.block _ (Array.getElem?_eq_some_iff.1 HC0.out).1).trans HC0.out); replace HV0 := Lib.hid (GHold.later HV0.out hb)
  replace HC1 := Lib.hid ((hb.block _ (Array.getElem?_eq_some_iff.1 HC1.out).1).trans HC1.out); replace HV1 := Lib.hid (GHold.later HV1.out hb)
  replace HB := Lib.hid (HB.out.trans (hb.mono HB.out.size))
  replace HSX : Hid (w.heap.size + 1 < (a2.alloc (.cells #[.int .i64 RO.1.sz, .slice A2 n2 c2, .slice B2 m2 k2] 25)).heap.size) := Lib.hid (Nat.lt_of_lt_of_le hsx hb.size)
  clear hb hsx
  generalize a2.alloc (.cells #[.int .i64 RO.1.sz, .slice A2 n2 c2, .slice B2 m2 k2] 25) = b2 at *
  generalize a2.heap.size = g2 at *
  try dsimp only [Act.put]
  clear H3
  have hy0 : b2.cell? ⟨w.heap.size + 1, 0, none⟩ = some (.int .i64 e.fr) := (cell_of_row _ _ 0 _ _ _ HY.out).trans rfl
  have hy1 : b2.cell? ⟨w.heap.size + 1, 1, none⟩ = some (.int .i64 e.tu) := (cell_of_row _ _ 1 _ _ _ HY.out).trans rfl
  go_wp2_with (refine wpList_load_row rfl 25 (.tmp 2) rfl w.heap.size rfl 25 #[.int .i64 G.sz, .slice A n c, .slice B m k] (0, 0) _ HX.out Try.underlying25 rfl gr_size ?_)
  clear hy0 hy1
  refine (H4.out b2 HB.out).mono ?_
  rintro e1 a3 ⟨v3, rfl, hv, hb⟩
  have HV3 := Lib.hid hv
  obtain ⟨A3, n3, c3, B3, m3, k3, rfl, -, -⟩ := hv
  have hsx : w.heap.size + 1 < b2.heap.size := HSX.out
  replace HX := Lib.hid ((hb.block _ (by omega)).trans HX.out); replace HY := Lib.hid ((hb.block _ (by omega)).trans HY.out)
  replace HC0 := Lib.hid ((hb.block _ (Array.getElem?_eq_some_iff.1 HC0.out).1).trans HC0.out); replace HV0 := Lib.hid (GHold.later HV0.out hb)
  replace HC1 := Lib.hid ((hb.block _ (Array.getElem?_eq_some_iff.1 HC1.out).1).trans HC1.out); replace HV1 := Lib.hid (GHold.later HV1.out hb)
  replace HC2 := Lib.hid ((hb.block _ (Array.getElem?_eq_some_iff.1 HC2.out).1).trans HC2.out); replace HV2 := Lib.hid (GHold.later HV2.out hb)
  replace HB := Lib.hid (HB.out.trans (hb.mono HB.out.size))
  replace HSX : Hid (w.heap.size + 1 < a3.heap.size) := Lib.hid (Nat.lt_of_lt_of_le hsx hb.size)
  clear hb hsx
  go_upto_region 5 with (refine wpList_store_new rfl 25 (.tmp 11) (.tmp 41) rfl 25 _ #[.int .i64 RO.1.sz, .slice A3 n3 c3, .slice B3 m3 k3] rfl rfl gr_size rfl (by simp [Value.oneCell']) ?_)
  have hb := one_new a3 (.cells #[.int .i64 RO.1.sz, .slice A3 n3 c3, .slice B3 m3 k3] 25)
  have HC3 : Hid ((a3.alloc (.cells #[.int .i64 RO.1.sz, .slice A3 n3 c3, .slice B3 m3 k3] 25)).heap[a3.heap.size]? = some (.cells #[.int .i64 RO.1.sz, .slice A3 n3 c3, .slice B3 m3 k3] 25 (0, 0))) := Lib.hid (heap_alloc_new _ _)
  replace HV3 := Lib.hid (GHold.later HV3.out hb)
  have hsx : w.heap.size + 1 < a3.heap.size := HSX.out
  replace HX := Lib.hid ((hb.block _ (by omega)).trans HX.out); replace HY := Lib.hid ((hb.block _ (by omega)).trans HY.out)
  replace HC0 := Lib.hid ((hb.block _ (Array.getElem?_eq_some_iff.1 HC0.out).1).trans HC0.out); replace HV0 := Lib.hid (GHold.later HV0.out hb)
  replace HC1 := Lib.hid ((hb.block _ (Array.getElem?_eq_some_iff.1 HC1.out).1).trans HC1.out); replace HV1 := Lib.hid (GHold.later HV1.out hb)
  replace HC2 := Lib.hid ((hb.block _ (Array.getElem?_eq_some_iff.1 HC2.out).1).trans HC2.out); replace HV2 := Lib.hid (GHold.later HV2.out hb)
  replace HB := Lib.hid (HB.out.trans (hb.mono HB.out.size))
  replace HSX : Hid (w.heap.size + 1 < (a3.alloc (.cells #[.int .i64 RO.1.sz, .slice A3 n3 c3, .slice B3 m3 k3] 25)).heap.size) := Lib.hid (Nat.lt_of_lt_of_le hsx hb.size)
  clear hb hsx
  generalize a3.alloc (.cells #[.int .i64 RO.1.sz, .slice A3 n3 c3, .slice B3 m3 k3] 25) = b3 at *
  generalize a3.heap.size = g3 at *
  try dsimp only [Act.put]
  clear H4
  refine wp_region_grow (by kernel_rfl) Later Later.refl (fun _ _ _ => Later.trans) [18, 19] [([0, 2], 1), ([], 3), ([4, 5, 6, 7, 8, 9], 10), ([11, 12, 13, 14, 15, 16], 17)] (by kernel_rfl) (by kernel_rfl) (by kernel_rfl) ?_
  simp only [List.map_cons, List.map_nil, pick, List.getD_cons_zero, List.getD_cons_succ]
  have hb : Below b3.heap.size b3 b3.drew := (Below.refl _ _).drew
  have hsx : w.heap.size + 1 < b3.heap.size := HSX.out
  replace HX := Lib.hid ((hb.block _ (by omega)).trans HX.out); replace HY := Lib.hid ((hb.block _ (by omega)).trans HY.out)
  replace HC0 := Lib.hid ((hb.block _ (Array.getElem?_eq_some_iff.1 HC0.out).1).trans HC0.out); replace HV0 := Lib.hid (GHold.later HV0.out hb)
  replace HC1 := Lib.hid ((hb.block _ (Array.getElem?_eq_some_iff.1 HC1.out).1).trans HC1.out); replace HV1 := Lib.hid (GHold.later HV1.out hb)
  replace HC2 := Lib.hid ((hb.block _ (Array.getElem?_eq_some_iff.1 HC2.out).1).trans HC2.out); replace HV2 := Lib.hid (GHold.later HV2.out hb)
  replace HC3 := Lib.hid ((hb.block _ (Array.getElem?_eq_some_iff.1 HC3.out).1).trans HC3.out); replace HV3 := Lib.hid (GHold.later HV3.out hb)
  replace HB := Lib.hid (HB.out.trans (hb.mono HB.out.size))
  replace HSX : Hid (w.heap.size + 1 < b3.drew.heap.size) := Lib.hid (Nat.lt_of_lt_of_le hsx hb.size)
  clear hb hsx
  generalize b3.drew = z0 at *
  have hl : ∀ x, (loadVar 25 ⟨w.heap.size, 0, none⟩).run Try.prog (fut Later z0 x) = .ok (.agg #[.int .i64 G.sz, .slice A n c, .slice B m k]) (fut Later z0 x) := fun x => run_loadVar_row _ w.heap.size 25 25 #[.int .i64 G.sz, .slice A n c, .slice B m k] (0, 0) _ (((fut_ok Later.refl z0 x).block _ (Array.getElem?_eq_some_iff.1 HX.out).1).trans HX.out) Try.underlying25 rfl gr_size
  refine wpGrow_cons ?_
  repeat (first | (refine wpQuiet_load rfl 25 (.tmp 2) rfl ⟨w.heap.size, 0, none⟩ rfl (.agg #[.int .i64 G.sz, .slice A n c, .slice B m k]) (fun w' h => by obtain ⟨x, rfl⟩ := h; exact hl x) ?_; simp only [Act.put, List.setIfInBounds_toArray, List.set_cons_succ, List.set_cons_zero]) | go_big_quiet_step (fail))
  refine wpQuiet_nil ?_
  clear hl
  go_wp2_with fail
  refine (H5.out z0 HB.out).mono ?_
  rintro e1 z1 ⟨rfl, hb⟩
  have HF : Hid (Later z0 z1) := Lib.hid hb
  have hsx : w.heap.size + 1 < z0.heap.size := HSX.out
  replace HX := Lib.hid ((hb.block _ (by omega)).trans HX.out); replace HY := Lib.hid ((hb.block _ (by omega)).trans HY.out)
  replace HC0 := Lib.hid ((hb.block _ (Array.getElem?_eq_some_iff.1 HC0.out).1).trans HC0.out); replace HV0 := Lib.hid (GHold.later HV0.out hb)
  replace HC1 := Lib.hid ((hb.block _ (Array.getElem?_eq_some_iff.1 HC1.out).1).trans HC1.out); replace HV1 := Lib.hid (GHold.later HV1.out hb)
  replace HC2 := Lib.hid ((hb.block _ (Array.getElem?_eq_some_iff.1 HC2.out).1).trans HC2.out); replace HV2 := Lib.hid (GHold.later HV2.out hb)
  replace HC3 := Lib.hid ((hb.block _ (Array.getElem?_eq_some_iff.1 HC3.out).1).trans HC3.out); replace HV3 := Lib.hid (GHold.later HV3.out hb)
  replace HB := Lib.hid (HB.out.trans (hb.mono HB.out.size))
  replace HSX : Hid (w.heap.size + 1 < z1.heap.size) := Lib.hid (Nat.lt_of_lt_of_le hsx hb.size)
  clear hb hsx
  go_wp2_with fail
  refine pieceEnd_normal ⟨HF.out, ?_⟩
  clear HF
  refine wpGrow_cons ?_
  refine wpQuiet_nil ?_
  go_wp2_with fail
  refine (H6.out z1 HB.out).mono ?_
  rintro e1 z2 ⟨rfl, hb⟩
  have HF : Hid (Later z1 z2) := Lib.hid hb
  have hsx : w.heap.size + 1 < z1.heap.size := HSX.out
  replace HX := Lib.hid ((hb.block _ (by omega)).trans HX.out); replace HY := Lib.hid ((hb.block _ (by omega)).trans HY.out)
  replace HC0 := Lib.hid ((hb.block _ (Array.getElem?_eq_some_iff.1 HC0.out).1).trans HC0.out); replace HV0 := Lib.hid (GHold.later HV0.out hb)
  replace HC1 := Lib.hid ((hb.block _ (Array.getElem?_eq_some_iff.1 HC1.out).1).trans HC1.out); replace HV1 := Lib.hid (GHold.later HV1.out hb)
  replace HC2 := Lib.hid ((hb.block _ (Array.getElem?_eq_some_iff.1 HC2.out).1).trans HC2.out); replace HV2 := Lib.hid (GHold.later HV2.out hb)
  replace HC3 := Lib.hid ((hb.block _ (Array.getElem?_eq_some_iff.1 HC3.out).1).trans HC3.out); replace HV3 := Lib.hid (GHold.later HV3.out hb)
  replace HB := Lib.hid (HB.out.trans (hb.mono HB.out.size))
  replace HSX : Hid (w.heap.size + 1 < z2.heap.size) := Lib.hid (Nat.lt_of_lt_of_le hsx hb.size)
  clear hb hsx
  go_wp2_with fail
  refine pieceEnd_normal ⟨HF.out, ?_⟩
  clear HF
  have hl0 : ∀ x, (loadVar 25 ⟨g0, 0, none⟩).run Try.prog (fut Later z2 x) = .ok (.agg #[.int .i64 RW.1.sz, .slice A0 n0 c0, .slice B0 m0 k0]) (fut Later z2 x) := fun x => run_loadVar_row _ g0 25 25 #[.int .i64 RW.1.sz, .slice A0 n0 c0, .slice B0 m0 k0] (0, 0) _ (((fut_ok Later.refl z2 x).block _ (Array.getElem?_eq_some_iff.1 HC0.out).1).trans HC0.out) Try.underlying25 rfl gr_size
  have hl1 : ∀ x, (loadVar 25 ⟨g1, 0, none⟩).run Try.prog (fut Later z2 x) = .ok (.agg #[.int .i64 RW.1.sz, .slice A1 n1 c1, .slice B1 m1 k1]) (fut Later z2 x) := fun x => run_loadVar_row _ g1 25 25 #[.int .i64 RW.1.sz, .slice A1 n1 c1, .slice B1 m1 k1] (0, 0) _ (((fut_ok Later.refl z2 x).block _ (Array.getElem?_eq_some_iff.1 HC1.out).1).trans HC1.out) Try.underlying25 rfl gr_size
  have hcg : (CG == CG) = true := by simp
  refine wpGrow_cons ?_
  repeat (first | (refine wpQuiet_load rfl 25 (.tmp 5) rfl ⟨g0, 0, none⟩ rfl (.agg #[.int .i64 RW.1.sz, .slice A0 n0 c0, .slice B0 m0 k0]) (fun w' h => by obtain ⟨x, rfl⟩ := h; exact hl0 x) ?_; simp only [Act.put, List.setIfInBounds_toArray, List.set_cons_succ, List.set_cons_zero]) | (refine wpQuiet_load rfl 25 (.tmp 7) rfl ⟨g1, 0, none⟩ rfl (.agg #[.int .i64 RW.1.sz, .slice A1 n1 c1, .slice B1 m1 k1]) (fun w' h => by obtain ⟨x, rfl⟩ := h; exact hl1 x) ?_; simp only [Act.put, List.setIfInBounds_toArray, List.set_cons_succ, List.set_cons_zero]) | go_big_quiet_step (fail))
  refine wpQuiet_nil ?_
  clear hl0 hl1
  go_wp2_with fail
  refine (same11_any RW.1 _ _ RW.2 z2 HV0.out HV1.out HWF.out.1 HWF.out.2).mono ?_
  rintro e1 z3 ⟨rfl, hb⟩
  have HF : Hid (Later z2 z3) := Lib.hid hb
  have hsx : w.heap.size + 1 < z2.heap.size := HSX.out
  replace HX := Lib.hid ((hb.block _ (by omega)).trans HX.out); replace HY := Lib.hid ((hb.block _ (by omega)).trans HY.out)
  replace HC0 := Lib.hid ((hb.block _ (Array.getElem?_eq_some_iff.1 HC0.out).1).trans HC0.out); replace HV0 := Lib.hid (GHold.later HV0.out hb)
  replace HC1 := Lib.hid ((hb.block _ (Array.getElem?_eq_some_iff.1 HC1.out).1).trans HC1.out); replace HV1 := Lib.hid (GHold.later HV1.out hb)
  replace HC2 := Lib.hid ((hb.block _ (Array.getElem?_eq_some_iff.1 HC2.out).1).trans HC2.out); replace HV2 := Lib.hid (GHold.later HV2.out hb)
  replace HC3 := Lib.hid ((hb.block _ (Array.getElem?_eq_some_iff.1 HC3.out).1).trans HC3.out); replace HV3 := Lib.hid (GHold.later HV3.out hb)
  replace HB := Lib.hid (HB.out.trans (hb.mono HB.out.size))
  replace HSX : Hid (w.heap.size + 1 < z3.heap.size) := Lib.hid (Nat.lt_of_lt_of_le hsx hb.size)
  clear hb hsx
  go_wp2_with fail
  refine pieceEnd_normal ⟨HF.out, ?_⟩
  clear HF
  have hl0 : ∀ x, (loadVar 25 ⟨g2, 0, none⟩).run Try.prog (fut Later z3 x) = .ok (.agg #[.int .i64 RO.1.sz, .slice A2 n2 c2, .slice B2 m2 k2]) (fut Later z3 x) := fun x => run_loadVar_row _ g2 25 25 #[.int .i64 RO.1.sz, .slice A2 n2 c2, .slice B2 m2 k2] (0, 0) _ (((fut_ok Later.refl z3 x).block _ (Array.getElem?_eq_some_iff.1 HC2.out).1).trans HC2.out) Try.underlying25 rfl gr_size
  have hl1 : ∀ x, (loadVar 25 ⟨g3, 0, none⟩).run Try.prog (fut Later z3 x) = .ok (.agg #[.int .i64 RO.1.sz, .slice A3 n3 c3, .slice B3 m3 k3]) (fut Later z3 x) := fun x => run_loadVar_row _ g3 25 25 #[.int .i64 RO.1.sz, .slice A3 n3 c3, .slice B3 m3 k3] (0, 0) _ (((fut_ok Later.refl z3 x).block _ (Array.getElem?_eq_some_iff.1 HC3.out).1).trans HC3.out) Try.underlying25 rfl gr_size
  refine wpGrow_cons ?_
  repeat (first | (refine wpQuiet_load rfl 25 (.tmp 9) rfl ⟨g2, 0, none⟩ rfl (.agg #[.int .i64 RO.1.sz, .slice A2 n2 c2, .slice B2 m2 k2]) (fun w' h => by obtain ⟨x, rfl⟩ := h; exact hl0 x) ?_; simp only [Act.put, List.setIfInBounds_toArray, List.set_cons_succ, List.set_cons_zero]) | (refine wpQuiet_load rfl 25 (.tmp 11) rfl ⟨g3, 0, none⟩ rfl (.agg #[.int .i64 RO.1.sz, .slice A3 n3 c3, .slice B3 m3 k3]) (fun w' h => by obtain ⟨x, rfl⟩ := h; exact hl1 x) ?_; simp only [Act.put, List.setIfInBounds_toArray, List.set_cons_succ, List.set_cons_zero]) | go_big_quiet_step (fail))
  refine wpQuiet_nil ?_
  clear hl0 hl1
  go_wp2_with fail
  refine (same11_any RO.1 _ _ RO.2 z3 HV2.out HV3.out HOF.out.1 HOF.out.2).mono ?_
  rintro e1 z4 ⟨rfl, hb⟩
  have HF : Hid (Later z3 z4) := Lib.hid hb
  have hsx : w.heap.size + 1 < z3.heap.size := HSX.out
  replace HX := Lib.hid ((hb.block _ (by omega)).trans HX.out); replace HY := Lib.hid ((hb.block _ (by omega)).trans HY.out)
  replace HC0 := Lib.hid ((hb.block _ (Array.getElem?_eq_some_iff.1 HC0.out).1).trans HC0.out); replace HV0 := Lib.hid (GHold.later HV0.out hb)
  replace HC1 := Lib.hid ((hb.block _ (Array.getElem?_eq_some_iff.1 HC1.out).1).trans HC1.out); replace HV1 := Lib.hid (GHold.later HV1.out hb)
  replace HC2 := Lib.hid ((hb.block _ (Array.getElem?_eq_some_iff.1 HC2.out).1).trans HC2.out); replace HV2 := Lib.hid (GHold.later HV2.out hb)
  replace HC3 := Lib.hid ((hb.block _ (Array.getElem?_eq_some_iff.1 HC3.out).1).trans HC3.out); replace HV3 := Lib.hid (GHold.later HV3.out hb)
  replace HB := Lib.hid (HB.out.trans (hb.mono HB.out.size))
  replace HSX : Hid (w.heap.size + 1 < z4.heap.size) := Lib.hid (Nat.lt_of_lt_of_le hsx hb.size)
  clear hb hsx
  go_wp2_with fail
  refine pieceEnd_normal ⟨HF.out, ?_⟩
  clear HF
  refine wpGrow_nil ?_
  repeat (go_big_quiet_step (fail))
  refine wpQuiet_nil ?_
  go_wp2_with fail
  go_ret
  exact ⟨rfl, HB.out⟩
end Go.Proofs.Ytnmpbjgccbnomaa
/- What layer 11 gives is proved of the program's own functions. -/
namespace Go.Proofs.Ytnmpbjgccbnomaa
open Go.RowKit
theorem graphC : GraphC where
  check G v w h he hg := checkGr_any G v w h he hg
  with_ G v e w h he hg := withGr_any G v e w h he hg
  without G v fr tu w h he hg := withoutGr_any G v fr tu w h he hg
  out G v key w h hg := outGr_any G v key w h hg.few.1
  in_ G v key w h hg := inGr_any G v key w h hg.few.1
  level G v lv w h hg := levelGr_any G v lv w h hg.few.1
theorem graphS : GraphS where
  base := graphC
  same G K v u w h h2 he hg _ _ := sameGr_any G K v u w h h2 he hg
end Go.Proofs.Ytnmpbjgccbnomaa
/- Graphs: the walk of the reference's Level. -/
namespace Go.Proofs.Ytnmpbjgccbnomaa
open Go.RowKit
def fitE (l : List Edg) (lv : Int) : List Edg := l.filter fun e => decide (lv ≤ e.lv)
theorem fitE_snoc (l : List Edg) (lv : Int) (j : Nat) (h : j < l.length) : fitE (l.take (j + 1)) lv = fitE (l.take j) lv ++ (if lv ≤ (l.getD j noEdg).lv then [l.getD j noEdg] else []) := by
  unfold fitE
  rw [List.take_add_one, List.getElem?_eq_getElem h, List.filter_append, List.getD_eq_getElem?_getD, List.getElem?_eq_getElem h]
  by_cases hk : lv ≤ l[j].lv <;> simp [hk]
theorem fitE_len (l : List Edg) (lv : Int) : (fitE l lv).length ≤ l.length := List.length_filter_le _ _
theorem row_futs {α : Type} {cs : α → List Value} {k : Nat} {F : World → World → Prop} {w z : World} {A : Option Addr} {n c : Nat} {l : List α} (hk : ∀ a, (cs a).length = k) (h0 : 0 < k) (h : GRow cs k w A n c l) (hb : ∀ x, Below w.heap.size w (fut F z x)) (d : α) (i : Nat) (hi : i < n) :
    ∃ b off, A = some ⟨b, off, none⟩ ∧ ∀ x j, j < k → (fut F z x).cell? ⟨b, off + i * k + j, none⟩ = (cs (l.getD i d))[j]? := by
  obtain ⟨b, off, hA, _⟩ := h.cells hk h0 d i hi
  refine ⟨b, off, hA, fun x j hj => ?_⟩
  obtain ⟨b2, off2, hA2, hc2⟩ := (h.later (hb x)).cells hk h0 d i hi
  rw [hA] at hA2
  injection hA2 with hA2
  injection hA2 with e1 e2
  subst e1 e2
  exact hc2 j hj
set_option maxRecDepth 100000 in
set_option maxHeartbeats 4000000 in
theorem glevel_any (G : Gr) (v : Value) (lv : Int) (w : World) (h : GHold w G v) (he : G.es.length ≤ 100000) (hg : G.gn.length ≤ 100000) : Calls Try.prog 21 #[v, .int .i64 lv] w (GivesGO w (levelG G lv)) := by
  have HGH := Lib.hid h
  obtain ⟨A, n, c, B, m, k, rfl, h1, -⟩ := h
  have hn : n ≤ 100000 := by rw [← ERow.len h1]; exact he
  have HL1 : Hid (G.es.length = n) := Lib.hid (ERow.len h1)
  have HB : Hid (Below w.heap.size w ((w.alloc (.cells #[.int .i64 G.sz, .slice A n c, .slice B m k] 25)).alloc (.cells #[.int .i64 0, .slice none 0 0, .slice none 0 0] 25))) := Lib.hid ((one_new w _).trans ((one_new _ _).mono (by simp)))
  have HX : Hid (((w.alloc (.cells #[.int .i64 G.sz, .slice A n c, .slice B m k] 25)).alloc (.cells #[.int .i64 0, .slice none 0 0, .slice none 0 0] 25)).heap[w.heap.size]? = some (.cells #[.int .i64 G.sz, .slice A n c, .slice B m k] 25 (0, 0))) := Lib.hid ((Below.heap_alloc _ _ _ (by simp)).trans (heap_alloc_new _ _))
  have HR : Hid (((w.alloc (.cells #[.int .i64 G.sz, .slice A n c, .slice B m k] 25)).alloc (.cells #[.int .i64 0, .slice none 0 0, .slice none 0 0] 25)).heap[w.heap.size + 1]? = some (.cells #[.int .i64 0, .slice none 0 0, .slice none 0 0] 25 (0, 0))) := Lib.hid (heap_alloc2_new _ _ _)
  have H1 := Lib.hid h1
  have HCP : Hid (∀ y, Below w.heap.size w y → Calls Try.prog 22 #[.agg #[.int .i64 G.sz, .slice A n c, .slice B m k]] y (GivesGO y G)) := Lib.hid fun y hy => gcopy_any G _ y (HGH.out.later hy) he hg
  have HRW : Hid (levelG G lv = ⟨G.sz, fitE G.es lv, G.gn⟩) := Lib.hid rfl
  generalize levelG G lv = RW at *
  clear h1 he hg HGH
  go_enter Try.func21, Try.ntmps21
  go_upto_region 1 with fail
  generalize ((w.alloc (.cells #[.int .i64 G.sz, .slice A n c, .slice B m k] 25)).alloc (.cells #[.int .i64 0, .slice none 0 0, .slice none 0 0] 25)) = y0 at *
  have HSZ : Hid (w.heap.size + 2 ≤ y0.heap.size) := Lib.hid (Array.getElem?_eq_some_iff.1 HR.out).1
  go_wp2_with (refine wpList_load_row rfl 25 (.tmp 2) rfl w.heap.size rfl 25 #[.int .i64 G.sz, .slice A n c, .slice B m k] (0, 0) _ HX.out Try.underlying25 rfl gr_size ?_)
  refine (HCP.out y0 HB.out).mono ?_
  rintro e1 w5 ⟨v5, rfl, ⟨ve0, vg, rfl, ho1, ho2⟩, hb⟩
  have HG2 := Lib.hid ho2
  have HB45 := Lib.hid HSZ.out
  have hs2 : w.heap.size + 2 ≤ y0.heap.size := HSZ.out
  replace HX := Lib.hid ((hb.block _ (by omega)).trans HX.out); replace HR := Lib.hid ((hb.block _ (by omega)).trans HR.out)
  replace HB := Lib.hid (HB.out.trans (hb.mono HB.out.size))
  replace HSZ : Hid (w.heap.size + 2 ≤ w5.heap.size) := Lib.hid (Nat.le_trans hs2 hb.size)
  clear hb hs2 HCP
  obtain ⟨Ae, ce, rfl, -⟩ := Row.of_own ho1
  obtain ⟨Ag, cg, rfl, -⟩ := Row.of_own ho2
  clear ho1 ho2
  go_upto_region 2 with (refine wpList_store_new rfl 25 (.tmp 5) (.tmp 8) rfl 25 _ #[.int .i64 G.sz, .slice Ae G.es.length ce, .slice Ag G.gn.length cg] rfl rfl gr_size rfl (by simp [Value.oneCell']) ?_)
  have HN5 := Lib.hid (one_new w5 (.cells #[.int .i64 G.sz, .slice Ae G.es.length ce, .slice Ag G.gn.length cg] 25))
  have HO8 : Hid ((w5.alloc (.cells #[.int .i64 G.sz, .slice Ae G.es.length ce, .slice Ag G.gn.length cg] 25)).heap[w5.heap.size]? = some (.cells #[.int .i64 G.sz, .slice Ae G.es.length ce, .slice Ag G.gn.length cg] 25 (0, 0))) := Lib.hid (heap_alloc_new _ _)
  have HG3 := Lib.hid (own_keepL HG2.out fun q hq => HN5.out.block _ (own_lt HG2.out q hq))
  have HGL : Hid (∀ q, (Value.slice Ag G.gn.length cg).ownBlock = some q → q < w5.heap.size) := Lib.hid fun q hq => own_lt HG2.out q hq
  have hb := HN5.out
  clear HN5 HG2
  have hs3 : w.heap.size + 2 ≤ w5.heap.size := HSZ.out
  replace HX := Lib.hid ((hb.block _ (by omega)).trans HX.out); replace HR := Lib.hid ((hb.block _ (by omega)).trans HR.out)
  replace HB := Lib.hid (HB.out.trans (hb.mono HB.out.size))
  clear hb
  obtain ⟨g8, hg8⟩ : ∃ g8, w5.heap.size = g8 := ⟨_, rfl⟩
  rw [hg8] at HO8 HGL hs3 ⊢
  have HS8 : Hid ((w5.alloc (.cells #[.int .i64 G.sz, .slice Ae G.es.length ce, .slice Ag G.gn.length cg] 25)).heap.size = g8 + 1) := Lib.hid (by rw [← hg8]; simp)
  have HG83 : Hid (w.heap.size + 2 ≤ g8) := Lib.hid hs3
  clear hg8 hs3 HSZ
  generalize w5.alloc (.cells #[.int .i64 G.sz, .slice Ae G.es.length ce, .slice Ag G.gn.length cg] 25) = u0 at *
  have hz1 : u0.cell? ⟨g8, 1, none⟩ = some (.slice Ae G.es.length ce) := (cell_of_row _ _ 1 _ _ _ HO8.out).trans rfl
  have hfz : u0.frozen? ⟨g8, 1, none⟩ = false := by unfold World.frozen?; rw [HO8.out]; simp
  dsimp only [Act.put]
  go_upto_region 3 with fail
  have hgg := HG83.out
  have HO9 : Hid ((u0.setCell ⟨g8, 1, none⟩ (.slice none 0 0)).heap[g8]? = some (.cells #[.int .i64 G.sz, .slice none 0 0, .slice Ag G.gn.length cg] 25 (0, 0))) := Lib.hid (heap_setCell_same u0 g8 1 _ _ _ HO8.out)
  have HKC : Hid (∀ q, q ≠ g8 → (u0.setCell ⟨g8, 1, none⟩ (.slice none 0 0)).heap[q]? = u0.heap[q]?) := Lib.hid fun q hq => Below.heap_setCell u0 ⟨g8, 1, none⟩ _ q hq
  have HS9 : Hid ((u0.setCell ⟨g8, 1, none⟩ (.slice none 0 0)).heap.size = g8 + 1) := Lib.hid (by rw [World.size_setCell]; exact HS8.out)
  replace HG3 := Lib.hid (own_keepL HG3.out fun q hq => HKC.out q (Nat.ne_of_lt (HGL.out q hq)))
  replace HB := Lib.hid (HB.out.setCell (p := ⟨g8, 1, none⟩) (show w.heap.size ≤ g8 by omega) (.slice none 0 0))
  replace HX := Lib.hid ((HKC.out w.heap.size (by omega)).trans HX.out)
  replace HR := Lib.hid ((HKC.out (w.heap.size + 1) (by omega)).trans HR.out)
  clear hz1 hfz HO8 HS8 HKC
  generalize u0.setCell ⟨g8, 1, none⟩ (.slice none 0 0) = u1 at *
  go_upto_region 4 with fail
  go_loopw [6] (fun i wr => ∃ (j : Nat) (ve : Value), j ≤ n ∧ i = .int .i64 j ∧ Hid (wr.heap[g8]? = some (.cells #[.int .i64 G.sz, ve, .slice Ag G.gn.length cg] 25 (0, 0)) ∧ wr.ownsRow (g8 + 1) 27 3 ve (fitE (G.es.take j) lv).length (rowC Edg.cells (fitE (G.es.take j) lv)) ∧ Below g8 u1 wr ∧ g8 + 1 ≤ wr.heap.size)) (fun i _ => n - (intOf i).toNat)
  case atStart => exact ⟨0, .slice none 0 0, Nat.zero_le _, rfl, Lib.hid ⟨HO9.out, World.ownsRow_nil _ _ _ _, Below.refl _ _, Nat.le_of_eq HS9.out.symm⟩⟩
  case round =>
    clear HO9
    obtain ⟨j, ve, hj, rfl, HQ⟩ := hrel
    have HO := Lib.hid HQ.out.1; have HE := Lib.hid HQ.out.2.1; have HZ := Lib.hid HQ.out.2.2.1; have HN := Lib.hid HQ.out.2.2.2
    clear HQ
    have HBW : Hid (Below w.heap.size w wr) := Lib.hid (HB.out.trans (HZ.out.mono (by have := HG83.out; omega)))
    have HXR : Hid (wr.heap[w.heap.size]? = some (.cells #[.int .i64 G.sz, .slice A n c, .slice B m k] 25 (0, 0))) := Lib.hid ((HZ.out.block _ (by have := HG83.out; omega)).trans HX.out)
    have hg1 : wr.cell? ⟨w.heap.size, 1, none⟩ = some (.slice A n c) := (cell_of_row _ _ 1 _ _ _ HXR.out).trans rfl
    by_cases hlt : j < n
    · have hlt2 : (j : Int) < (n : Int) := by omega
      obtain ⟨b, off, hA, hc⟩ := GRow.cells Edg.len (by decide) (GRow.later H1.out HBW.out) noEdg j hlt
      subst hA
      have HST := Lib.hid (fitE_snoc G.es lv j (by rw [HL1.out]; exact hlt))
      have HUL : Hid ((fitE (G.es.take j) lv).length ≤ 100000) := Lib.hid (Nat.le_trans (fitE_len _ _) (by rw [List.length_take]; omega))
      obtain ⟨p, hp⟩ : ∃ p, G.es.getD j noEdg = p := ⟨_, rfl⟩
      rw [hp] at hc HST
      have HP := Lib.hid hp
      have hc2 : wr.cell? ⟨b, off + j * 3 + 2, none⟩ = some (.int .i64 p.lv) := hc 2 (by decide)
      clear hc hp
      generalize fitE (G.es.take j) lv = U at *
      by_cases hk : lv ≤ p.lv
      · have b0 : decide (p.lv ≥ lv) = true := decide_eq_true hk
        have b0' : decide (lv ≤ p.lv) = true := b0
        rw [if_pos hk] at HST
        clear hk
        go_upto_region 7 with fail
        clear b0 b0' hg1 hc2
        refine wp_region_flow (by kernel_rfl) (Below g8) ?_
        have HBD : Hid (Below w.heap.size w wr.drew) := Lib.hid HBW.out.drew
        have HXD : Hid (wr.drew.heap[w.heap.size]? = some (.cells #[.int .i64 G.sz, .slice (some ⟨b, off, none⟩) n c, .slice B m k] 25 (0, 0))) := Lib.hid HXR.out
        have HOD : Hid (wr.drew.heap[g8]? = some (.cells #[.int .i64 G.sz, ve, .slice Ag G.gn.length cg] 25 (0, 0))) := Lib.hid HO.out
        have HED : Hid (wr.drew.ownsRow (g8 + 1) 27 3 ve U.length (rowC Edg.cells U)) := Lib.hid HE.out
        have HZD : Hid (Below g8 u1 wr.drew) := Lib.hid HZ.out.drew
        have HN0 : Hid (g8 + 1 ≤ wr.drew.heap.size) := Lib.hid HN.out
        clear HBW HXR HO HE HZ HN
        generalize wr.drew = z0 at *
        have hg83 := HG83.out
        have hul := HUL.out
        obtain ⟨b2, off2, hA2, hfq⟩ := row_futs (F := Below g8) (z := z0) Edg.len (by decide) H1.out (fun x => HBD.out.trans ((fut_ok (Below.refl g8) z0 x).mono (by omega))) noEdg j hlt
        injection hA2 with hA2
        injection hA2 with i1 i2
        subst i1 i2
        rw [HP.out] at hfq
        have hfqc : ∀ x, (loadVar 27 ⟨b, off + j * 3, none⟩).run Try.prog (fut (Below g8) z0 x) = .ok (.agg p.arr) (fut (Below g8) z0 x) := fun x => run_loadVar_cells _ b (off + j * 3) 27 p.arr _ Try.underlying27 rfl p.info fun i hi => (hfq x i hi).trans (by rw [← Edg.list, Array.getElem?_toList])
        have hf1 : ∀ x, (fut (Below g8) z0 x).cell? ⟨w.heap.size, 1, none⟩ = some (.slice (some ⟨b, off, none⟩) n c) := fun x => (cell_of_row _ _ 1 _ _ _ (((fut_ok (Below.refl g8) z0 x).block _ (by omega)).trans HXD.out)).trans rfl
        clear hfq HXD
        refine flow_reads (F := Below g8) (fun _ => Below.refl _ _) (by kernel_rfl) [0, 2, 3, 4, 5, 6] (fuel := 5) (by kernel_rfl) ?_
        simp only [List.map_cons, List.map_nil, pick, List.getD_cons_zero, List.getD_cons_succ]
        repeat (first | (refine wpQuiet_load rfl 27 (.tmp 30) rfl ⟨b, off + j * 3, none⟩ rfl (.agg p.arr) (fun w' h => by obtain ⟨x, rfl⟩ := h; exact hfqc x) ?_; simp only [Act.put, List.setIfInBounds_toArray, List.set_cons_succ, List.set_cons_zero]) | go_big_quiet_step (fail))
        refine wpQuiet_nil ?_
        clear hf1 hfqc
        refine flow_two (F := Below g8) (fun _ _ _ => Below.trans) (fun _ => Below.refl _ _) 1 7 (by kernel_rfl) (by decide) (by decide) ?_ ?_ <;> simp only [pick, List.getD_cons_zero, List.getD_cons_succ]
        · skip
          have hz1 : z0.cell? ⟨g8, 1, none⟩ = some ve := (cell_of_row _ _ 1 _ _ _ HOD.out).trans rfl
          go_wp2_with fail
          refine pieceEnd_normal ⟨Below.refl _ _, ?_⟩
          clear hz1
          refine flow_one (F := Below g8) (fun _ _ _ => Below.trans) (fun _ => Below.refl _ _) 7 (by kernel_rfl) (by decide) ?_
          simp only [pick, List.getD_cons_zero, List.getD_cons_succ]
          have hvs : p.arr.size = 3 := rfl
          go_wp2_with fail
          clear hvs
          (first | rw [fold3n] | rw [fold3])
          have hb : Below (g8 + 1) z0 (z0.alloc (.cells p.arr 27)) := (one_new z0 _).mono HN0.out
          refine pieceEnd_normal ⟨hb.mono (Nat.le_succ g8), ?_⟩
          have HR3 : Hid (Row (z0.alloc (.cells p.arr 27)) (some ⟨z0.heap.size, 0, none⟩) 1 1 3 (rowC Edg.cells [p])) := Lib.hid (Row.of_block (heap_alloc_new _ _) rfl)
          replace HED := Lib.hid (World.ownsRow.alloc HED.out (.cells p.arr 27))
          replace HOD := Lib.hid ((hb.block g8 (Nat.lt_succ_self g8)).trans HOD.out)
          replace HZD := Lib.hid (HZD.out.trans (hb.mono (Nat.le_succ g8)))
          replace HN0 := Lib.hid (Nat.le_trans HN0.out hb.size)
          clear hb
          obtain ⟨g3, hg3⟩ : ∃ g3, z0.heap.size = g3 := ⟨_, rfl⟩
          rw [hg3] at HR3 ⊢
          clear hg3
          generalize z0.alloc (.cells p.arr 27) = z1 at *
          refine flow_one (F := Below g8) (fun _ _ _ => Below.trans) (fun _ => Below.refl _ _) 8 (by kernel_rfl) (by decide) ?_
          simp only [pick, List.getD_cons_zero, List.getD_cons_succ]
          go_wp2_with (at_builtin; go_must (refine wpList_app2 z1 rfl (.tmp 26) (.tmp 32) 22 22 27 rfl (g8 + 1) Try.underlying22 edg_info rfl _ U.length _ HED.out rfl _ 1 (rowC Edg.cells [p]) (Row.src HR3.out Try.underlying22 (rowC_ones Edg.ones _)) rfl (by unfold maxLen; omega) (by omega) HN0.out ?_); intro v4 z5 ho hb _ _; have HE5 := Lib.hid ho; have HF : Hid (Below (g8 + 1) z1 z5) := Lib.hid hb; clear ho hb)
          refine pieceEnd_normal ⟨HF.out.mono (Nat.le_succ g8), ?_⟩
          replace HOD := Lib.hid ((HF.out.block g8 (Nat.lt_succ_self g8)).trans HOD.out)
          replace HZD := Lib.hid (HZD.out.trans (HF.out.mono (Nat.le_succ g8)))
          replace HN0 := Lib.hid (Nat.le_trans HN0.out HF.out.size)
          clear HF HR3 HED
          refine flow_reads (F := Below g8) (fun _ => Below.refl _ _) (by kernel_rfl) [9] (fuel := 1) (by kernel_rfl) ?_
          simp only [List.map_cons, List.map_nil, pick, List.getD_cons_zero, List.getD_cons_succ]
          repeat (go_big_quiet_step (fail))
          refine wpQuiet_nil ?_
          refine flow_one (F := Below g8) (fun _ _ _ => Below.trans) (fun _ => Below.refl _ _) 10 (by kernel_rfl) (by decide) ?_
          simp only [pick, List.getD_cons_zero, List.getD_cons_succ]
          have hz1 : z5.cell? ⟨g8, 1, none⟩ = some ve := (cell_of_row _ _ 1 _ _ _ HOD.out).trans rfl
          have hfz : z5.frozen? ⟨g8, 1, none⟩ = false := by unfold World.frozen?; rw [HOD.out]; simp
          obtain ⟨A6, c6, hv6, -⟩ := Row.of_own HE5.out
          subst hv6
          go_wp2_with fail
          have HF : Hid (Below g8 z5 (z5.setCell ⟨g8, 1, none⟩ (.slice A6 (U.length + 1) c6))) := Lib.hid ((Below.refl _ _).setCell (p := ⟨g8, 1, none⟩) (Nat.le_refl g8) _)
          refine pieceEnd_normal ⟨HF.out, ?_⟩
          refine flow_done (by kernel_rfl) ?_
          have HO9 : Hid ((z5.setCell ⟨g8, 1, none⟩ (.slice A6 (U.length + 1) c6)).heap[g8]? = some (.cells #[.int .i64 G.sz, .slice A6 (U.length + 1) c6, .slice Ag G.gn.length cg] 25 (0, 0))) := Lib.hid (heap_setCell_same z5 g8 1 _ _ _ HOD.out)
          have HE9 := Lib.hid (own_keepL HE5.out fun q hq => Below.heap_setCell z5 ⟨g8, 1, none⟩ (.slice A6 (U.length + 1) c6) q (by have := own_ge HE5.out q hq; show q ≠ g8; omega))
          have HZ9 := Lib.hid (HZD.out.trans HF.out)
          have HN9 : Hid (g8 + 1 ≤ (z5.setCell ⟨g8, 1, none⟩ (.slice A6 (U.length + 1) c6)).heap.size) := Lib.hid (by rw [World.size_setCell]; exact HN0.out)
          clear hz1 hfz HF HOD HE5 HZD HN0
          generalize z5.setCell ⟨g8, 1, none⟩ (.slice A6 (U.length + 1) c6) = z6 at *
          go_wp2_with fail
          exact ⟨⟨j + 1, _, by omega, by go_num, Lib.hid ⟨HO9.out, by rw [HST.out, List.length_append, rowC_app]; exact HE9.out, HZ9.out, HN9.out⟩⟩, by simp [intOf]; omega⟩
        · skip
          have hvs : p.arr.size = 3 := rfl
          go_wp2_with fail
          clear hvs
          (first | rw [fold3n] | rw [fold3])
          have hb : Below (g8 + 1) z0 (z0.alloc (.cells p.arr 27)) := (one_new z0 _).mono HN0.out
          refine pieceEnd_normal ⟨hb.mono (Nat.le_succ g8), ?_⟩
          have HR3 : Hid (Row (z0.alloc (.cells p.arr 27)) (some ⟨z0.heap.size, 0, none⟩) 1 1 3 (rowC Edg.cells [p])) := Lib.hid (Row.of_block (heap_alloc_new _ _) rfl)
          replace HED := Lib.hid (World.ownsRow.alloc HED.out (.cells p.arr 27))
          replace HOD := Lib.hid ((hb.block g8 (Nat.lt_succ_self g8)).trans HOD.out)
          replace HZD := Lib.hid (HZD.out.trans (hb.mono (Nat.le_succ g8)))
          replace HN0 := Lib.hid (Nat.le_trans HN0.out hb.size)
          clear hb
          obtain ⟨g3, hg3⟩ : ∃ g3, z0.heap.size = g3 := ⟨_, rfl⟩
          rw [hg3] at HR3 ⊢
          clear hg3
          generalize z0.alloc (.cells p.arr 27) = z1 at *
          refine flow_one (F := Below g8) (fun _ _ _ => Below.trans) (fun _ => Below.refl _ _) 1 (by kernel_rfl) (by decide) ?_
          simp only [pick, List.getD_cons_zero, List.getD_cons_succ]
          have hz1 : z1.cell? ⟨g8, 1, none⟩ = some ve := (cell_of_row _ _ 1 _ _ _ HOD.out).trans rfl
          go_wp2_with fail
          refine pieceEnd_normal ⟨Below.refl _ _, ?_⟩
          clear hz1
          refine flow_one (F := Below g8) (fun _ _ _ => Below.trans) (fun _ => Below.refl _ _) 8 (by kernel_rfl) (by decide) ?_
          simp only [pick, List.getD_cons_zero, List.getD_cons_succ]
          go_wp2_with (at_builtin; go_must (refine wpList_app2 z1 rfl (.tmp 26) (.tmp 32) 22 22 27 rfl (g8 + 1) Try.underlying22 edg_info rfl _ U.length _ HED.out rfl _ 1 (rowC Edg.cells [p]) (Row.src HR3.out Try.underlying22 (rowC_ones Edg.ones _)) rfl (by unfold maxLen; omega) (by omega) HN0.out ?_); intro v4 z5 ho hb _ _; have HE5 := Lib.hid ho; have HF : Hid (Below (g8 + 1) z1 z5) := Lib.hid hb; clear ho hb)
          refine pieceEnd_normal ⟨HF.out.mono (Nat.le_succ g8), ?_⟩
          replace HOD := Lib.hid ((HF.out.block g8 (Nat.lt_succ_self g8)).trans HOD.out)
          replace HZD := Lib.hid (HZD.out.trans (HF.out.mono (Nat.le_succ g8)))
          replace HN0 := Lib.hid (Nat.le_trans HN0.out HF.out.size)
          clear HF HR3 HED
          refine flow_reads (F := Below g8) (fun _ => Below.refl _ _) (by kernel_rfl) [9] (fuel := 1) (by kernel_rfl) ?_
          simp only [List.map_cons, List.map_nil, pick, List.getD_cons_zero, List.getD_cons_succ]
          repeat (go_big_quiet_step (fail))
          refine wpQuiet_nil ?_
          refine flow_one (F := Below g8) (fun _ _ _ => Below.trans) (fun _ => Below.refl _ _) 10 (by kernel_rfl) (by decide) ?_
          simp only [pick, List.getD_cons_zero, List.getD_cons_succ]
          have hz1 : z5.cell? ⟨g8, 1, none⟩ = some ve := (cell_of_row _ _ 1 _ _ _ HOD.out).trans rfl
          have hfz : z5.frozen? ⟨g8, 1, none⟩ = false := by unfold World.frozen?; rw [HOD.out]; simp
          obtain ⟨A6, c6, hv6, -⟩ := Row.of_own HE5.out
          subst hv6
          go_wp2_with fail
          have HF : Hid (Below g8 z5 (z5.setCell ⟨g8, 1, none⟩ (.slice A6 (U.length + 1) c6))) := Lib.hid ((Below.refl _ _).setCell (p := ⟨g8, 1, none⟩) (Nat.le_refl g8) _)
          refine pieceEnd_normal ⟨HF.out, ?_⟩
          refine flow_done (by kernel_rfl) ?_
          have HO9 : Hid ((z5.setCell ⟨g8, 1, none⟩ (.slice A6 (U.length + 1) c6)).heap[g8]? = some (.cells #[.int .i64 G.sz, .slice A6 (U.length + 1) c6, .slice Ag G.gn.length cg] 25 (0, 0))) := Lib.hid (heap_setCell_same z5 g8 1 _ _ _ HOD.out)
          have HE9 := Lib.hid (own_keepL HE5.out fun q hq => Below.heap_setCell z5 ⟨g8, 1, none⟩ (.slice A6 (U.length + 1) c6) q (by have := own_ge HE5.out q hq; show q ≠ g8; omega))
          have HZ9 := Lib.hid (HZD.out.trans HF.out)
          have HN9 : Hid (g8 + 1 ≤ (z5.setCell ⟨g8, 1, none⟩ (.slice A6 (U.length + 1) c6)).heap.size) := Lib.hid (by rw [World.size_setCell]; exact HN0.out)
          clear hz1 hfz HF HOD HE5 HZD HN0
          generalize z5.setCell ⟨g8, 1, none⟩ (.slice A6 (U.length + 1) c6) = z6 at *
          go_wp2_with fail
          exact ⟨⟨j + 1, _, by omega, by go_num, Lib.hid ⟨HO9.out, by rw [HST.out, List.length_append, rowC_app]; exact HE9.out, HZ9.out, HN9.out⟩⟩, by simp [intOf]; omega⟩
      · have b0 : decide (p.lv ≥ lv) = false := decide_eq_false hk
        have b0' : decide (lv ≤ p.lv) = false := b0
        rw [if_neg hk, List.append_nil] at HST
        clear hk
        go_wp2_with fail
        exact ⟨⟨j + 1, ve, by omega, by go_num, Lib.hid (by rw [HST.out]; exact ⟨HO.out, HE.out, HZ.out, HN.out⟩)⟩, by simp [intOf]; omega⟩
    · have hlt2 : ¬ (j : Int) < (n : Int) := by omega
      have HT : Hid (fitE (G.es.take j) lv = fitE G.es lv) := Lib.hid (by rw [List.take_of_length_le (by rw [HL1.out]; omega)])
      rw [HT.out] at HE
      clear HT
      have HRR : Hid (wr.heap[w.heap.size + 1]? = some (.cells #[.int .i64 0, .slice none 0 0, .slice none 0 0] 25 (0, 0))) := Lib.hid ((HZ.out.block _ (by have := HG83.out; omega)).trans HR.out)
      have HGR := Lib.hid (own_keepL HG3.out fun q hq => HZ.out.block q (HGL.out q hq))
      obtain ⟨A6, c6, hv6, -⟩ := Row.of_own HE.out
      subst hv6
      have hgg := HG83.out
      go_wp2_with (first | (refine wpList_load_row rfl 25 (.tmp 5) rfl g8 rfl 25 #[.int .i64 G.sz, .slice A6 (fitE G.es lv).length c6, .slice Ag G.gn.length cg] (0, 0) _ HO.out Try.underlying25 rfl gr_size ?_) | (refine wpList_store_row rfl 25 (.tmp 4) (.tmp 35) rfl (w.heap.size + 1) #[.int .i64 G.sz, .slice A6 (fitE G.es lv).length c6, .slice Ag G.gn.length cg] rfl rfl 25 _ HRR.out gr_size rfl (by simp [Value.oneCell']) ?_))
      refine bodyPost_ret (v := .agg #[.int .i64 G.sz, .slice A6 (fitE G.es lv).length c6, .slice Ag G.gn.length cg]) (results_cell_row rfl _ _ (w.heap.size + 1) 25 #[.int .i64 G.sz, .slice A6 (fitE G.es lv).length c6, .slice Ag G.gn.length cg] (0, 0) _ rfl (setRow_heap _ _ _ #[.int .i64 G.sz, .slice A6 (fitE G.es lv).length c6, .slice Ag G.gn.length cg] _ _ HRR.out) Try.underlying25 rfl gr_size) rfl ?_
      rw [HRW.out]
      refine ⟨_, rfl, ?_, below_setRow HBW.out (by omega) _⟩
      refine ⟨_, _, rfl, ?_, ?_⟩
      · exact own_base (own_keepL HE.out fun q hq => setRow_other _ _ _ _ (by have := own_ge HE.out q hq; omega)) (by omega)
      · exact own_base (own_keepL HGR.out fun q hq => setRow_other _ _ _ _ (by have := own_ge HGR.out q hq; have := HB45.out; omega)) (by have := HB45.out; omega)
end Go.Proofs.Ytnmpbjgccbnomaa
/- Graphs: the walk of the reference's At. -/
namespace Go.Proofs.Ytnmpbjgccbnomaa
open Go.RowKit
/-- What is there stays, but for block g; below block g all stays. -/
def Midst (g n : Nat) (a b : World) : Prop := Below g a b ∧ ∀ k, k < n → k ≠ g → b.heap[k]? = a.heap[k]?
theorem Midst.refl (g n : Nat) (a : World) : Midst g n a a := ⟨Below.refl _ _, fun _ _ _ => rfl⟩
theorem Midst.trans {g n : Nat} {a b c : World} (h : Midst g n a b) (k : Midst g n b c) : Midst g n a c := ⟨h.1.trans k.1, fun i hi hg => (k.2 i hi hg).trans (h.2 i hi hg)⟩
theorem Midst.of {g n : Nat} {a b : World} (h : Below n a b) (hg : g ≤ n) : Midst g n a b := ⟨h.mono hg, fun i hi _ => h.block i hi⟩
theorem Midst.cell {g n : Nat} (a : World) (i : Nat) (v : Value) : Midst g n a (a.setCell ⟨g, i, none⟩ v) := ⟨(Below.refl _ _).setCell (p := ⟨g, i, none⟩) (Nat.le_refl g) v, fun k _ hk => Below.heap_setCell a ⟨g, i, none⟩ v k hk⟩
theorem Midst.drew {g n : Nat} {a b : World} (h : Midst g n a b) : Midst g n a b.drew := ⟨h.1.drew, h.2⟩
end Go.Proofs.Ytnmpbjgccbnomaa
/- Plain facts on the graph of a time. -/
namespace Go.Proofs.Ytnmpbjgccbnomaa
open Go.RowKit
end Go.Proofs.Ytnmpbjgccbnomaa
/- The walk of the dice's Spoil. -/
namespace Go.Proofs.Ytnmpbjgccbnomaa
open Go.RowKit
end Go.Proofs.Ytnmpbjgccbnomaa
/- The walks of the dice's Lists and Store. -/
namespace Go.Proofs.Ytnmpbjgccbnomaa
open Go.RowKit
end Go.Proofs.Ytnmpbjgccbnomaa
