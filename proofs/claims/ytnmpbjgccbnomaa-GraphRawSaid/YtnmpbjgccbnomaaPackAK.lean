import Derived.Test.YtnmpbjgccbnomaaPackAJ
import Derived.Test.YtnmpbjgccbnomaaPackAI
import Derived.Test.YtnmpbjgccbnomaaPackAA
import Derived.ProofKit
import Derived.OpenShut
import Derived.Carry
import Derived.Handed
import Derived.ChangeMaps5
/- The law of layer 11 on one graph, over any program that gives what layer 11 asks. -/
namespace Go.Proofs.Ytnmpbjgccbnomaa
open Go.RowKit
/-- What the program's functions of layer 11 give. -/
structure GraphC : Prop where
  check : ∀ (G : Gr) (v : Value) (w : World), GHold w G v → G.es.length ≤ 100000 → G.gn.length ≤ 100000 → Calls Try.prog 27 #[v] w (SaysL (.int .i64 (checkG G)) w)
  with_ : ∀ (G : Gr) (v : Value) (e : Edg) (w : World), GHold w G v → G.es.length ≤ 100000 → G.gn.length ≤ 100000 → Calls Try.prog 25 #[v, .agg e.arr] w (GivesGE w (withG G e))
  without : ∀ (G : Gr) (v : Value) (fr tu : Int) (w : World), GHold w G v → G.es.length ≤ 100000 → G.gn.length ≤ 100000 → Calls Try.prog 26 #[v, .int .i64 fr, .int .i64 tu] w (GivesGE w (withoutG G fr tu))
  out : ∀ (G : Gr) (v : Value) (key : Int) (w : World), GHold w G v → Good11 G → Calls Try.prog 16 #[v, .int .i64 key] w (GivesI w (outS G.es key))
  in_ : ∀ (G : Gr) (v : Value) (key : Int) (w : World), GHold w G v → Good11 G → Calls Try.prog 18 #[v, .int .i64 key] w (GivesI w (inS G.es key))
  level : ∀ (G : Gr) (v : Value) (lv : Int) (w : World), GHold w G v → Good11 G → Calls Try.prog 20 #[v, .int .i64 lv] w (GivesG w (levelG G lv))
/-- .. and its Same. -/
structure GraphS : Prop where
  base : GraphC
  same : ∀ (G K : Gr) (v u : Value) (w : World), GHold w G v → GHold w K u → G.es.length ≤ 100000 → G.gn.length ≤ 100000 → K.es.length ≤ 100000 → K.gn.length ≤ 100000 → Calls Try.prog 8 #[v, u] w (SaysL (.bool (sameG G.sz G.es G.gn K.sz K.es K.gn)) w)
theorem set_at {l : List Int} {z : Int} (h : setB l z = true) {i : Nat} (hi : i < l.length) : 0 ≤ l.getD i 0 ∧ l.getD i 0 < z ∧ (0 < i → l.getD (i - 1) 0 < l.getD i 0) := by
  unfold setB at h
  rw [List.all_eq_true] at h
  have h1 := h i (List.mem_range.2 hi)
  unfold okSet at h1
  rw [Bool.and_eq_true, Bool.and_eq_true, Bool.or_eq_true, decide_eq_true_eq, decide_eq_true_eq, decide_eq_true_eq, decide_eq_true_eq] at h1
  exact ⟨h1.1, h1.2.1, fun h0 => h1.2.2.elim (fun q => by omega) id⟩
theorem set_len {l : List Int} {z : Int} (h : setB l z = true) (hz : z ≤ 64) : l.length ≤ 64 := by
  have hk : ∀ i, i < l.length → (i : Int) ≤ l.getD i 0 ∧ l.getD i 0 < z := by
    intro i
    induction i with
    | zero =>
      intro hi
      have := set_at h hi
      exact ⟨by omega, this.2.1⟩
    | succ i ih =>
      intro hi
      have h1 := ih (by omega)
      have h2 := set_at h hi
      exact ⟨by have := h2.2.2 (by omega); rw [Nat.add_sub_cancel] at this; omega, h2.2.1⟩
  rcases Nat.eq_zero_or_pos l.length with h0 | h0
  · omega
  · have := hk (l.length - 1) (by omega)
    omega
theorem sameEs_self (l : List Edg) : sameEs l l = true := sameEs_yes fun _ _ => (sameE_iff _ _).2 rfl
theorem sameG_self (G : Gr) : sameG G.sz G.es G.gn G.sz G.es G.gn = true := by
  unfold sameG
  rw [if_pos rfl, if_pos rfl, if_pos (sameIB_self _), sameEs_self]
theorem Good11.few {G : Gr} (h : Good11 G) : G.es.length ≤ 100000 ∧ G.gn.length ≤ 100000 := ⟨Nat.le_trans h.len (by decide), Nat.le_trans (set_len h.set h.hi) (by decide)⟩
theorem with_few (G : Gr) (e : Edg) : (withG G e).1.es.length ≤ 100000 ∧ (withG G e).1.gn.length ≤ 100000 := by
  by_cases h : (withG G e).2 = 0
  · exact (with_good h).2.1.few
  · rw [with_zero h]; exact ⟨Nat.zero_le _, Nat.zero_le _⟩
theorem without_few {G : Gr} (fr tu : Int) (h1 : G.es.length ≤ 100000) (h2 : G.gn.length ≤ 100000) : (withoutG G fr tu).1.es.length ≤ 100000 ∧ (withoutG G fr tu).1.gn.length ≤ 100000 := by
  unfold withoutG
  split
  · exact ⟨Nat.zero_le _, Nat.zero_le _⟩
  · split
    · exact ⟨by simp only [List.length_append, List.length_take, List.length_drop]; omega, h2⟩
    · exact ⟨Nat.zero_le _, Nat.zero_le _⟩
set_option maxRecDepth 100000 in
set_option maxHeartbeats 4000000 in
theorem same11_any (G : Gr) (v u : Value) (x : Int) (w : World) (h : GHold w G v) (h2 : GHold w G u) (he : G.es.length ≤ 100000) (hg : G.gn.length ≤ 100000) : Calls Try.prog 31 #[v, u, .int .i64 x, .int .i64 x] w (SaysL (.bool true) w) := by
  obtain ⟨A, n, c, B, m, k, rfl, ha, hb⟩ := h
  obtain ⟨A2, n2, c2, B2, m2, k2, rfl, ha2, hb2⟩ := h2
  have hn : n ≤ 100000 := by rw [← ERow.len ha]; exact he
  have hm : m ≤ 100000 := by rw [← hb.len]; exact hg
  have HB : Hid (Below w.heap.size w ((w.alloc (.cells #[.int .i64 G.sz, .slice A n c, .slice B m k] 25)).alloc (.cells #[.int .i64 G.sz, .slice A2 n2 c2, .slice B2 m2 k2] 25))) := Lib.hid ((one_new w _).trans ((one_new _ _).mono (by simp)))
  have HX : Hid (((w.alloc (.cells #[.int .i64 G.sz, .slice A n c, .slice B m k] 25)).alloc (.cells #[.int .i64 G.sz, .slice A2 n2 c2, .slice B2 m2 k2] 25)).heap[w.heap.size]? = some (.cells #[.int .i64 G.sz, .slice A n c, .slice B m k] 25 (0, 0))) := Lib.hid ((Below.heap_alloc _ _ _ (by simp)).trans (heap_alloc_new _ _))
  have HY : Hid (((w.alloc (.cells #[.int .i64 G.sz, .slice A n c, .slice B m k] 25)).alloc (.cells #[.int .i64 G.sz, .slice A2 n2 c2, .slice B2 m2 k2] 25)).heap[w.heap.size + 1]? = some (.cells #[.int .i64 G.sz, .slice A2 n2 c2, .slice B2 m2 k2] 25 (0, 0))) := Lib.hid (heap_alloc2_new _ _ _)
  have HS := Lib.hid (gsame_any G.sz A n c G.es B m k G.gn G.sz A2 n2 c2 G.es B2 m2 k2 G.gn ((w.alloc (.cells #[.int .i64 G.sz, .slice A n c, .slice B m k] 25)).alloc (.cells #[.int .i64 G.sz, .slice A2 n2 c2, .slice B2 m2 k2] 25)) (GRow.later ha HB.out) (hb.later HB.out) (GRow.later ha2 HB.out) (hb2.later HB.out) hn hm)
  rw [sameG_self] at HS
  clear ha hb ha2 hb2
  go_enter Try.func31, Try.ntmps31
  go_upto_region 1 with fail
  generalize ((w.alloc (.cells #[.int .i64 G.sz, .slice A n c, .slice B m k] 25)).alloc (.cells #[.int .i64 G.sz, .slice A2 n2 c2, .slice B2 m2 k2] 25)) = y0 at *
  go_wp2_with (first | (refine wpList_load_rowG rfl 25 (.tmp 4) rfl w.heap.size rfl 25 #[.int .i64 G.sz, .slice A n c, .slice B m k] (0, 0) _ HX.out Try.underlying25 rfl gr_size ?_) | (refine wpList_load_rowG rfl 25 (.tmp 5) rfl (w.heap.size + 1) rfl 25 #[.int .i64 G.sz, .slice A2 n2 c2, .slice B2 m2 k2] (0, 0) _ HY.out Try.underlying25 rfl gr_size ?_))
  refine HS.out.mono ?_
  rintro e w1 ⟨rfl, hb⟩
  have HB1 := Lib.hid (HB.out.trans (hb.mono HB.out.size))
  clear hb HS
  go_wp2_with fail
  go_ret
  exact ⟨rfl, HB1.out⟩
set_option maxRecDepth 100000 in
set_option maxHeartbeats 4000000 in
theorem agree11_any (H : GraphC) (G : Gr) (v : Value) (e : Edg) (w : World) (h : GHold w G v) (he : G.es.length ≤ 100000) (hg : G.gn.length ≤ 100000) : Calls Try.prog 7 #[v, .agg e.arr] w (SaysL (.bool true) w) := by
  have HGH := Lib.hid h
  obtain ⟨A, n, c, B, m, k, rfl, -, -⟩ := h
  have HB : Hid (Below w.heap.size w ((w.alloc (.cells #[.int .i64 G.sz, .slice A n c, .slice B m k] 25)).alloc (.cells e.arr 27))) := Lib.hid ((one_new w _).trans ((one_new _ _).mono (by simp)))
  have HX : Hid (((w.alloc (.cells #[.int .i64 G.sz, .slice A n c, .slice B m k] 25)).alloc (.cells e.arr 27)).heap[w.heap.size]? = some (.cells #[.int .i64 G.sz, .slice A n c, .slice B m k] 25 (0, 0))) := Lib.hid ((Below.heap_alloc _ _ _ (by simp)).trans (heap_alloc_new _ _))
  have HY : Hid (((w.alloc (.cells #[.int .i64 G.sz, .slice A n c, .slice B m k] 25)).alloc (.cells e.arr 27)).heap[w.heap.size + 1]? = some (.cells e.arr 27 (0, 0))) := Lib.hid (heap_alloc2_new _ _ _)
  have HWF := Lib.hid (with_few G e); have HOF := Lib.hid (without_few e.fr e.tu he hg)
  have H1 : Hid (∀ y, Below w.heap.size w y → Calls Try.prog 25 #[.agg #[.int .i64 G.sz, .slice A n c, .slice B m k], .agg e.arr] y (GivesGE y (withG G e))) := Lib.hid fun y hy => H.with_ G _ e y (HGH.out.later hy) he hg
  have H2 : Hid (∀ y, Below w.heap.size w y → Calls Try.prog 24 #[.agg #[.int .i64 G.sz, .slice A n c, .slice B m k], .agg e.arr] y (GivesGE y (withG G e))) := Lib.hid fun y hy => (gwith_any G _ e y (HGH.out.later hy) he hg).mono fun _ _ h => h.weak
  have H3 : Hid (∀ y, Below w.heap.size w y → Calls Try.prog 26 #[.agg #[.int .i64 G.sz, .slice A n c, .slice B m k], .int .i64 e.fr, .int .i64 e.tu] y (GivesGE y (withoutG G e.fr e.tu))) := Lib.hid fun y hy => H.without G _ e.fr e.tu y (HGH.out.later hy) he hg
  have H4 : Hid (∀ y, Below w.heap.size w y → Calls Try.prog 29 #[.agg #[.int .i64 G.sz, .slice A n c, .slice B m k], .int .i64 e.fr, .int .i64 e.tu] y (GivesGE y (withoutG G e.fr e.tu))) := Lib.hid fun y hy => (gwithout_any G _ e.fr e.tu y (HGH.out.later hy) he hg).mono fun _ _ h => h.weak
  have H5 : Hid (∀ y, Below w.heap.size w y → Calls Try.prog 27 #[.agg #[.int .i64 G.sz, .slice A n c, .slice B m k]] y (SaysL (.int .i64 (checkG G)) y)) := Lib.hid fun y hy => H.check G _ y (HGH.out.later hy) he hg
  have H6 : Hid (∀ y, Below w.heap.size w y → Calls Try.prog 30 #[.agg #[.int .i64 G.sz, .slice A n c, .slice B m k]] y (SaysL (.int .i64 (checkG G)) y)) := Lib.hid fun y hy => gcheck_any G _ y (HGH.out.later hy) he hg
  generalize withG G e = RW at *
  generalize withoutG G e.fr e.tu = RO at *
  generalize checkG G = CG at *
  clear he hg HGH H
  go_enter Try.func7, Try.ntmps7
  go_upto_region 1 with fail
  generalize ((w.alloc (.cells #[.int .i64 G.sz, .slice A n c, .slice B m k] 25)).alloc (.cells e.arr 27)) = y0 at *
  have HSX : Hid (w.heap.size + 1 < y0.heap.size) := Lib.hid (Array.getElem?_eq_some_iff.1 HY.out).1
  go_wp2_with (first | (refine wpList_load_row rfl 25 (.tmp 2) rfl w.heap.size rfl 25 #[.int .i64 G.sz, .slice A n c, .slice B m k] (0, 0) _ HX.out Try.underlying25 rfl gr_size ?_) | (refine wpList_load_row rfl 27 (.tmp 3) rfl (w.heap.size + 1) rfl 27 e.arr (0, 0) _ HY.out Try.underlying27 rfl e.info ?_))
  refine (H1.out y0 HB.out).mono ?_
  rintro e1 a0 ⟨v0, rfl, hv, hb⟩
  have HV0 := Lib.hid hv
  obtain ⟨A0, n0, c0, B0, m0, k0, rfl, -, -⟩ := hv
  have hsx : w.heap.size + 1 < y0.heap.size := HSX.out
  replace HX := Lib.hid ((hb.block _ (by omega)).trans HX.out); replace HY := Lib.hid ((hb.block _ (by omega)).trans HY.out)
  replace HB := Lib.hid (HB.out.trans (hb.mono HB.out.size))
  replace HSX : Hid (w.heap.size + 1 < a0.heap.size) := Lib.hid (Nat.lt_of_lt_of_le hsx hb.size)
  clear hb hsx
  go_upto_region 2 with (refine wpList_store_new rfl 25 (.tmp 5) (.tmp 17) rfl 25 _ #[.int .i64 RW.1.sz, .slice A0 n0 c0, .slice B0 m0 k0] rfl rfl gr_size rfl (by simp [Value.oneCell']) ?_)
  have hb := one_new a0 (.cells #[.int .i64 RW.1.sz, .slice A0 n0 c0, .slice B0 m0 k0] 25)
  have HC0 : Hid ((a0.alloc (.cells #[.int .i64 RW.1.sz, .slice A0 n0 c0, .slice B0 m0 k0] 25)).heap[a0.heap.size]? = some (.cells #[.int .i64 RW.1.sz, .slice A0 n0 c0, .slice B0 m0 k0] 25 (0, 0))) := Lib.hid (heap_alloc_new _ _)
  replace HV0 := Lib.hid (GHold.later HV0.out hb)
  have hsx : w.heap.size + 1 < a0.heap.size := HSX.out
  replace HX := Lib.hid ((hb.block _ (by omega)).trans HX.out); replace HY := Lib.hid ((hb.block _ (by omega)).trans HY.out)
  replace HB := Lib.hid (HB.out.trans (hb.mono HB.out.size))
  replace HSX : Hid (w.heap.size + 1 < (a0.alloc (.cells #[.int .i64 RW.1.sz, .slice A0 n0 c0, .slice B0 m0 k0] 25)).heap.size) := Lib.hid (Nat.lt_of_lt_of_le hsx hb.size)
  clear hb hsx
  generalize a0.alloc (.cells #[.int .i64 RW.1.sz, .slice A0 n0 c0, .slice B0 m0 k0] 25) = b0 at *
  generalize a0.heap.size = g0 at *
  try dsimp only [Act.put]
  clear H1
  go_wp2_with (first | (refine wpList_load_row rfl 25 (.tmp 2) rfl w.heap.size rfl 25 #[.int .i64 G.sz, .slice A n c, .slice B m k] (0, 0) _ HX.out Try.underlying25 rfl gr_size ?_) | (refine wpList_load_row rfl 27 (.tmp 3) rfl (w.heap.size + 1) rfl 27 e.arr (0, 0) _ HY.out Try.underlying27 rfl e.info ?_))
  refine (H2.out b0 HB.out).mono ?_
  rintro e1 a1 ⟨v1, rfl, hv, hb⟩
  have HV1 := Lib.hid hv
  obtain ⟨A1, n1, c1, B1, m1, k1, rfl, -, -⟩ := hv
  have hsx : w.heap.size + 1 < b0.heap.size := HSX.out
  replace HX := Lib.hid ((hb.block _ (by omega)).trans HX.out); replace HY := Lib.hid ((hb.block _ (by omega)).trans HY.out)
  replace HC0 := Lib.hid ((hb.block _ (Array.getElem?_eq_some_iff.1 HC0.out).1).trans HC0.out); replace HV0 := Lib.hid (GHold.later HV0.out hb)
  replace HB := Lib.hid (HB.out.trans (hb.mono HB.out.size))
  replace HSX : Hid (w.heap.size + 1 < a1.heap.size) := Lib.hid (Nat.lt_of_lt_of_le hsx hb.size)
  clear hb hsx
  go_upto_region 3 with (refine wpList_store_new rfl 25 (.tmp 7) (.tmp 23) rfl 25 _ #[.int .i64 RW.1.sz, .slice A1 n1 c1, .slice B1 m1 k1] rfl rfl gr_size rfl (by simp [Value.oneCell']) ?_)
  have hb := one_new a1 (.cells #[.int .i64 RW.1.sz, .slice A1 n1 c1, .slice B1 m1 k1] 25)
  have HC1 : Hid ((a1.alloc (.cells #[.int .i64 RW.1.sz, .slice A1 n1 c1, .slice B1 m1 k1] 25)).heap[a1.heap.size]? = some (.cells #[.int .i64 RW.1.sz, .slice A1 n1 c1, .slice B1 m1 k1] 25 (0, 0))) := Lib.hid (heap_alloc_new _ _)
  replace HV1 := Lib.hid (GHold.later HV1.out hb)
  have hsx : w.heap.size + 1 < a1.heap.size := HSX.out
  replace HX := Lib.hid ((hb.block _ (by omega)).trans HX.out); replace HY := Lib.hid ((hb.block _ (by omega)).trans HY.out)
  replace HC0 := Lib.hid ((hb.block _ (Array.getElem?_eq_some_iff.1 HC0.out).1).trans HC0.out); replace HV0 := Lib.hid (GHold.later HV0.out hb)
  replace HB := Lib.hid (HB.out.trans (hb.mono HB.out.size))
  replace HSX : Hid (w.heap.size + 1 < (a1.alloc (.cells #[.int .i64 RW.1.sz, .slice A1 n1 c1, .slice B1 m1 k1] 25)).heap.size) := Lib.hid (Nat.lt_of_lt_of_le hsx hb.size)
  clear hb hsx
  generalize a1.alloc (.cells #[.int .i64 RW.1.sz, .slice A1 n1 c1, .slice B1 m1 k1] 25) = b1 at *
  generalize a1.heap.size = g1 at *
  try dsimp only [Act.put]
  clear H2
  have hy0 : b1.cell? ⟨w.heap.size + 1, 0, none⟩ = some (.int .i64 e.fr) := (cell_of_row _ _ 0 _ _ _ HY.out).trans rfl
  have hy1 : b1.cell? ⟨w.heap.size + 1, 1, none⟩ = some (.int .i64 e.tu) := (cell_of_row _ _ 1 _ _ _ HY.out).trans rfl
  go_wp2_with (refine wpList_load_row rfl 25 (.tmp 2) rfl w.heap.size rfl 25 #[.int .i64 G.sz, .slice A n c, .slice B m k] (0, 0) _ HX.out Try.underlying25 rfl gr_size ?_)
  clear hy0 hy1
  refine (H3.out b1 HB.out).mono ?_
  rintro e1 a2 ⟨v2, rfl, hv, hb⟩
  have HV2 := Lib.hid hv
  obtain ⟨A2, n2, c2, B2, m2, k2, rfl, -, -⟩ := hv
  have hsx : w.heap.size + 1 < b1.heap.size := HSX.out
  replace HX := Lib.hid ((hb.block _ (by omega)).trans HX.out); replace HY := Lib.hid ((hb.block _ (by omega)).trans HY.out)
  replace HC0 := Lib.hid ((hb.block _ (Array.getElem?_eq_some_iff.1 HC0.out).1).trans HC0.out); replace HV0 := Lib.hid (GHold.later HV0.out hb)
  replace HC1 := Lib.hid ((hb.block _ (Array.getElem?_eq_some_iff.1 HC1.out).1).trans HC1.out); replace HV1 := Lib.hid (GHold.later HV1.out hb)
  replace HB := Lib.hid (HB.out.trans (hb.mono HB.out.size))
  replace HSX : Hid (w.heap.size + 1 < a2.heap.size) := Lib.hid (Nat.lt_of_lt_of_le hsx hb.size)
  clear hb hsx
  go_upto_region 4 with (refine wpList_store_new rfl 25 (.tmp 9) (.tmp 32) rfl 25 _ #[.int .i64 RO.1.sz, .slice A2 n2 c2, .slice B2 m2 k2] rfl rfl gr_size rfl (by simp [Value.oneCell']) ?_)
  have hb := one_new a2 (.cells #[.int .i64 RO.1.sz, .slice A2 n2 c2, .slice B2 m2 k2] 25)
  have HC2 : Hid ((a2.alloc (.cells #[.int .i64 RO.1.sz, .slice A2 n2 c2, .slice B2 m2 k2] 25)).heap[a2.heap.size]? = some (.cells #[.int .i64 RO.1.sz, .slice A2 n2 c2, .slice B2 m2 k2] 25 (0, 0))) := Lib.hid (heap_alloc_new _ _)
  replace HV2 := Lib.hid (GHold.later HV2.out hb)
  have hsx : w.heap.size + 1 < a2.heap.size := HSX.out
  replace HX := Lib.hid ((hb.block _ (by omega)).trans HX.out); replace HY := Lib.hid ((hb.block _ (by omega)).trans HY.out)
  replace HC0 := Lib.hid ((hb.block _ (Array.getElem?_eq_some_iff.1 HC0.out).1).trans HC0.out); replace HV0 := Lib.hid (GHold.later HV0.out hb)
  replace HC1 := Lib.hid ((hb.block _ (Array.getElem?_eq_some_iff.1 HC1.out).1).trans HC1.out); replace HV1 := Lib.hid (GHold.later HV1.out hb)
  replace HB := Lib.hid (HB.out.trans (hb.mono HB.out.size))
  replace HSX : Hid (w.heap.size + 1 < (a2.alloc (.cells #[.int .i64 RO.1.sz, .slice A2 n2 c2, .slice B2 m2 k2] 25)).heap.size) := Lib.hid (Nat.lt_of_lt_of_le hsx hb.size)
  clear hb hsx
  generalize a2.alloc (.cells #[.int .i64 RO.1.sz, .slice A2 n2 c2, .slice B2 m2 k2] 25) = b2 at *
  generalize a2.heap.size = g2 at *
  try dsimp only [Act.put]
  clear H3
  have hy0 : b2.cell? ⟨w.heap.size + 1, 0, none⟩ = some (.int .i64 e.fr) := (cell_of_row _ _ 0 _ _ _ HY.out).trans rfl
  have hy1 : b2.cell? ⟨w.heap.size + 1, 1, none⟩ = some (.int .i64 e.tu) := (cell_of_row _ _ 1 _ _ _ HY.out).trans rfl
  go_wp2_with (refine wpList_load_row rfl 25 (.tmp 2) rfl w.heap.size rfl 25 #[.int .i64 G.sz, .slice A n c, .slice B m k] (0, 0) _ HX.out Try.underlying25 rfl gr_size ?_)
  clear hy0 hy1
  refine (H4.out b2 HB.out).mono ?_
  rintro e1 a3 ⟨v3, rfl, hv, hb⟩
  have HV3 := Lib.hid hv
  obtain ⟨A3, n3, c3, B3, m3, k3, rfl, -, -⟩ := hv
  have hsx : w.heap.size + 1 < b2.heap.size := HSX.out
  replace HX := Lib.hid ((hb.block _ (by omega)).trans HX.out); replace HY := Lib.hid ((hb.block _ (by omega)).trans HY.out)
  replace HC0 := Lib.hid ((hb.block _ (Array.getElem?_eq_some_iff.1 HC0.out).1).trans HC0.out); replace HV0 := Lib.hid (GHold.later HV0.out hb)
  replace HC1 := Lib.hid ((hb.block _ (Array.getElem?_eq_some_iff.1 HC1.out).1).trans HC1.out); replace HV1 := Lib.hid (GHold.later HV1.out hb)
  replace HC2 := Lib.hid ((hb.block _ (Array.getElem?_eq_some_iff.1 HC2.out).1).trans HC2.out); replace HV2 := Lib.hid (GHold.later HV2.out hb)
  replace HB := Lib.hid (HB.out.trans (hb.mono HB.out.size))
  replace HSX : Hid (w.heap.size + 1 < a3.heap.size) := Lib.hid (Nat.lt_of_lt_of_le hsx hb.size)
  clear hb hsx
  go_upto_region 5 with (refine wpList_store_new rfl 25 (.tmp 11) (.tmp 41) rfl 25 _ #[.int .i64 RO.1.sz, .slice A3 n3 c3, .slice B3 m3 k3] rfl rfl gr_size rfl (by simp [Value.oneCell']) ?_)
  have hb := one_new a3 (.cells #[.int .i64 RO.1.sz, .slice A3 n3 c3, .slice B3 m3 k3] 25)
  have HC3 : Hid ((a3.alloc (.cells #[.int .i64 RO.1.sz, .slice A3 n3 c3, .slice B3 m3 k3] 25)).heap[a3.heap.size]? = some (.cells #[.int .i64 RO.1.sz, .slice A3 n3 c3, .slice B3 m3 k3] 25 (0, 0))) := Lib.hid (heap_alloc_new _ _)
  replace HV3 := Lib.hid (GHold.later HV3.out hb)
  have hsx : w.heap.size + 1 < a3.heap.size := HSX.out
  replace HX := Lib.hid ((hb.block _ (by omega)).trans HX.out); replace HY := Lib.hid ((hb.block _ (by omega)).trans HY.out)
  replace HC0 := Lib.hid ((hb.block _ (Array.getElem?_eq_some_iff.1 HC0.out).1).trans HC0.out); replace HV0 := Lib.hid (GHold.later HV0.out hb)
  replace HC1 := Lib.hid ((hb.block _ (Array.getElem?_eq_some_iff.1 HC1.out).1).trans HC1.out); replace HV1 := Lib.hid (GHold.later HV1.out hb)
  replace HC2 := Lib.hid ((hb.block _ (Array.getElem?_eq_some_iff.1 HC2.out).1).trans HC2.out); replace HV2 := Lib.hid (GHold.later HV2.out hb)
  replace HB := Lib.hid (HB.out.trans (hb.mono HB.out.size))
  replace HSX : Hid (w.heap.size + 1 < (a3.alloc (.cells #[.int .i64 RO.1.sz, .slice A3 n3 c3, .slice B3 m3 k3] 25)).heap.size) := Lib.hid (Nat.lt_of_lt_of_le hsx hb.size)
  clear hb hsx
  generalize a3.alloc (.cells #[.int .i64 RO.1.sz, .slice A3 n3 c3, .slice B3 m3 k3] 25) = b3 at *
  generalize a3.heap.size = g3 at *
  try dsimp only [Act.put]
  clear H4
  refine wp_region_grow (by kernel_rfl) Later Later.refl (fun _ _ _ => Later.trans) [18, 19] [([0, 2], 1), ([], 3), ([4, 5, 6, 7, 8, 9], 10), ([11, 12, 13, 14, 15, 16], 17)] (by kernel_rfl) (by kernel_rfl) (by kernel_rfl) ?_
  simp only [List.map_cons, List.map_nil, pick, List.getD_cons_zero, List.getD_cons_succ]
  have hb : Below b3.heap.size b3 b3.drew := (Below.refl _ _).drew
  have hsx : w.heap.size + 1 < b3.heap.size := HSX.out
  replace HX := Lib.hid ((hb.block _ (by omega)).trans HX.out); replace HY := Lib.hid ((hb.block _ (by omega)).trans HY.out)
  replace HC0 := Lib.hid ((hb.block _ (Array.getElem?_eq_some_iff.1 HC0.out).1).trans HC0.out); replace HV0 := Lib.hid (GHold.later HV0.out hb)
  replace HC1 := Lib.hid ((hb.block _ (Array.getElem?_eq_some_iff.1 HC1.out).1).trans HC1.out); replace HV1 := Lib.hid (GHold.later HV1.out hb)
  replace HC2 := Lib.hid ((hb.block _ (Array.getElem?_eq_some_iff.1 HC2.out).1).trans HC2.out); replace HV2 := Lib.hid (GHold.later HV2.out hb)
  replace HC3 := Lib.hid ((hb.block _ (Array.getElem?_eq_some_iff.1 HC3.out).1).trans HC3.out); replace HV3 := Lib.hid (GHold.later HV3.out hb)
  replace HB := Lib.hid (HB.out.trans (hb.mono HB.out.size))
  replace HSX : Hid (w.heap.size + 1 < b3.drew.heap.size) := Lib.hid (Nat.lt_of_lt_of_le hsx hb.size)
  clear hb hsx
  generalize b3.drew = z0 at *
  have hl : ∀ x, (loadVar 25 ⟨w.heap.size, 0, none⟩).run Try.prog (fut Later z0 x) = .ok (.agg #[.int .i64 G.sz, .slice A n c, .slice B m k]) (fut Later z0 x) := fun x => run_loadVar_row _ w.heap.size 25 25 #[.int .i64 G.sz, .slice A n c, .slice B m k] (0, 0) _ (((fut_ok Later.refl z0 x).block _ (Array.getElem?_eq_some_iff.1 HX.out).1).trans HX.out) Try.underlying25 rfl gr_size
  refine wpGrow_cons ?_
  repeat (first | (refine wpQuiet_load rfl 25 (.tmp 2) rfl ⟨w.heap.size, 0, none⟩ rfl (.agg #[.int .i64 G.sz, .slice A n c, .slice B m k]) (fun w' h => by obtain ⟨x, rfl⟩ := h; exact hl x) ?_; simp only [Act.put, List.setIfInBounds_toArray, List.set_cons_succ, List.set_cons_zero]) | go_big_quiet_step (fail))
  refine wpQuiet_nil ?_
  clear hl
  go_wp2_with fail
  refine (H5.out z0 HB.out).mono ?_
  rintro e1 z1 ⟨rfl, hb⟩
  have HF : Hid (Later z0 z1) := Lib.hid hb
  have hsx : w.heap.size + 1 < z0.heap.size := HSX.out
  replace HX := Lib.hid ((hb.block _ (by omega)).trans HX.out); replace HY := Lib.hid ((hb.block _ (by omega)).trans HY.out)
  replace HC0 := Lib.hid ((hb.block _ (Array.getElem?_eq_some_iff.1 HC0.out).1).trans HC0.out); replace HV0 := Lib.hid (GHold.later HV0.out hb)
  replace HC1 := Lib.hid ((hb.block _ (Array.getElem?_eq_some_iff.1 HC1.out).1).trans HC1.out); replace HV1 := Lib.hid (GHold.later HV1.out hb)
  replace HC2 := Lib.hid ((hb.block _ (Array.getElem?_eq_some_iff.1 HC2.out).1).trans HC2.out); replace HV2 := Lib.hid (GHold.later HV2.out hb)
  replace HC3 := Lib.hid ((hb.block _ (Array.getElem?_eq_some_iff.1 HC3.out).1).trans HC3.out); replace HV3 := Lib.hid (GHold.later HV3.out hb)
  replace HB := Lib.hid (HB.out.trans (hb.mono HB.out.size))
  replace HSX : Hid (w.heap.size + 1 < z1.heap.size) := Lib.hid (Nat.lt_of_lt_of_le hsx hb.size)
  clear hb hsx
  go_wp2_with fail
  refine pieceEnd_normal ⟨HF.out, ?_⟩
  clear HF
  refine wpGrow_cons ?_
  refine wpQuiet_nil ?_
  go_wp2_with fail
  refine (H6.out z1 HB.out).mono ?_
  rintro e1 z2 ⟨rfl, hb⟩
  have HF : Hid (Later z1 z2) := Lib.hid hb
  have hsx : w.heap.size + 1 < z1.heap.size := HSX.out
  replace HX := Lib.hid ((hb.block _ (by omega)).trans HX.out); replace HY := Lib.hid ((hb.block _ (by omega)).trans HY.out)
  replace HC0 := Lib.hid ((hb.block _ (Array.getElem?_eq_some_iff.1 HC0.out).1).trans HC0.out); replace HV0 := Lib.hid (GHold.later HV0.out hb)
  replace HC1 := Lib.hid ((hb.block _ (Array.getElem?_eq_some_iff.1 HC1.out).1).trans HC1.out); replace HV1 := Lib.hid (GHold.later HV1.out hb)
  replace HC2 := Lib.hid ((hb.block _ (Array.getElem?_eq_some_iff.1 HC2.out).1).trans HC2.out); replace HV2 := Lib.hid (GHold.later HV2.out hb)
  replace HC3 := Lib.hid ((hb.block _ (Array.getElem?_eq_some_iff.1 HC3.out).1).trans HC3.out); replace HV3 := Lib.hid (GHold.later HV3.out hb)
  replace HB := Lib.hid (HB.out.trans (hb.mono HB.out.size))
  replace HSX : Hid (w.heap.size + 1 < z2.heap.size) := Lib.hid (Nat.lt_of_lt_of_le hsx hb.size)
  clear hb hsx
  go_wp2_with fail
  refine pieceEnd_normal ⟨HF.out, ?_⟩
  clear HF
  have hl0 : ∀ x, (loadVar 25 ⟨g0, 0, none⟩).run Try.prog (fut Later z2 x) = .ok (.agg #[.int .i64 RW.1.sz, .slice A0 n0 c0, .slice B0 m0 k0]) (fut Later z2 x) := fun x => run_loadVar_row _ g0 25 25 #[.int .i64 RW.1.sz, .slice A0 n0 c0, .slice B0 m0 k0] (0, 0) _ (((fut_ok Later.refl z2 x).block _ (Array.getElem?_eq_some_iff.1 HC0.out).1).trans HC0.out) Try.underlying25 rfl gr_size
  have hl1 : ∀ x, (loadVar 25 ⟨g1, 0, none⟩).run Try.prog (fut Later z2 x) = .ok (.agg #[.int .i64 RW.1.sz, .slice A1 n1 c1, .slice B1 m1 k1]) (fut Later z2 x) := fun x => run_loadVar_row _ g1 25 25 #[.int .i64 RW.1.sz, .slice A1 n1 c1, .slice B1 m1 k1] (0, 0) _ (((fut_ok Later.refl z2 x).block _ (Array.getElem?_eq_some_iff.1 HC1.out).1).trans HC1.out) Try.underlying25 rfl gr_size
  have hcg : (CG == CG) = true := by simp
  refine wpGrow_cons ?_
  repeat (first | (refine wpQuiet_load rfl 25 (.tmp 5) rfl ⟨g0, 0, none⟩ rfl (.agg #[.int .i64 RW.1.sz, .slice A0 n0 c0, .slice B0 m0 k0]) (fun w' h => by obtain ⟨x, rfl⟩ := h; exact hl0 x) ?_; simp only [Act.put, List.setIfInBounds_toArray, List.set_cons_succ, List.set_cons_zero]) | (refine wpQuiet_load rfl 25 (.tmp 7) rfl ⟨g1, 0, none⟩ rfl (.agg #[.int .i64 RW.1.sz, .slice A1 n1 c1, .slice B1 m1 k1]) (fun w' h => by obtain ⟨x, rfl⟩ := h; exact hl1 x) ?_; simp only [Act.put, List.setIfInBounds_toArray, List.set_cons_succ, List.set_cons_zero]) | go_big_quiet_step (fail))
  refine wpQuiet_nil ?_
  clear hl0 hl1
  go_wp2_with fail
  refine (same11_any RW.1 _ _ RW.2 z2 HV0.out HV1.out HWF.out.1 HWF.out.2).mono ?_
  rintro e1 z3 ⟨rfl, hb⟩
  have HF : Hid (Later z2 z3) := Lib.hid hb
  have hsx : w.heap.size + 1 < z2.heap.size := HSX.out
  replace HX := Lib.hid ((hb.block _ (by omega)).trans HX.out); replace HY := Lib.hid ((hb.block _ (by omega)).trans HY.out)
  replace HC0 := Lib.hid ((hb.block _ (Array.getElem?_eq_some_iff.1 HC0.out).1).trans HC0.out); replace HV0 := Lib.hid (GHold.later HV0.out hb)
  replace HC1 := Lib.hid ((hb.block _ (Array.getElem?_eq_some_iff.1 HC1.out).1).trans HC1.out); replace HV1 := Lib.hid (GHold.later HV1.out hb)
  replace HC2 := Lib.hid ((hb.block _ (Array.getElem?_eq_some_iff.1 HC2.out).1).trans HC2.out); replace HV2 := Lib.hid (GHold.later HV2.out hb)
  replace HC3 := Lib.hid ((hb.block _ (Array.getElem?_eq_some_iff.1 HC3.out).1).trans HC3.out); replace HV3 := Lib.hid (GHold.later HV3.out hb)
  replace HB := Lib.hid (HB.out.trans (hb.mono HB.out.size))
  replace HSX : Hid (w.heap.size + 1 < z3.heap.size) := Lib.hid (Nat.lt_of_lt_of_le hsx hb.size)
  clear hb hsx
  go_wp2_with fail
  refine pieceEnd_normal ⟨HF.out, ?_⟩
  clear HF
  have hl0 : ∀ x, (loadVar 25 ⟨g2, 0, none⟩).run Try.prog (fut Later z3 x) = .ok (.agg #[.int .i64 RO.1.sz, .slice A2 n2 c2, .slice B2 m2 k2]) (fut Later z3 x) := fun x => run_loadVar_row _ g2 25 25 #[.int .i64 RO.1.sz, .slice A2 n2 c2, .slice B2 m2 k2] (0, 0) _ (((fut_ok Later.refl z3 x).block _ (Array.getElem?_eq_some_iff.1 HC2.out).1).trans HC2.out) Try.underlying25 rfl gr_size
  have hl1 : ∀ x, (loadVar 25 ⟨g3, 0, none⟩).run Try.prog (fut Later z3 x) = .ok (.agg #[.int .i64 RO.1.sz, .slice A3 n3 c3, .slice B3 m3 k3]) (fut Later z3 x) := fun x => run_loadVar_row _ g3 25 25 #[.int .i64 RO.1.sz, .slice A3 n3 c3, .slice B3 m3 k3] (0, 0) _ (((fut_ok Later.refl z3 x).block _ (Array.getElem?_eq_some_iff.1 HC3.out).1).trans HC3.out) Try.underlying25 rfl gr_size
  refine wpGrow_cons ?_
  repeat (first | (refine wpQuiet_load rfl 25 (.tmp 9) rfl ⟨g2, 0, none⟩ rfl (.agg #[.int .i64 RO.1.sz, .slice A2 n2 c2, .slice B2 m2 k2]) (fun w' h => by obtain ⟨x, rfl⟩ := h; exact hl0 x) ?_; simp only [Act.put, List.setIfInBounds_toArray, List.set_cons_succ, List.set_cons_zero]) | (refine wpQuiet_load rfl 25 (.tmp 11) rfl ⟨g3, 0, none⟩ rfl (.agg #[.int .i64 RO.1.sz, .slice A3 n3 c3, .slice B3 m3 k3]) (fun w' h => by obtain ⟨x, rfl⟩ := h; exact hl1 x) ?_; simp only [Act.put, List.setIfInBounds_toArray, List.set_cons_succ, List.set_cons_zero]) | go_big_quiet_step (fail))
  refine wpQuiet_nil ?_
  clear hl0 hl1
  go_wp2_with fail
  refine (same11_any RO.1 _ _ RO.2 z3 HV2.out HV3.out HOF.out.1 HOF.out.2).mono ?_
  rintro e1 z4 ⟨rfl, hb⟩
  have HF : Hid (Later z3 z4) := Lib.hid hb
  have hsx : w.heap.size + 1 < z3.heap.size := HSX.out
  replace HX := Lib.hid ((hb.block _ (by omega)).trans HX.out); replace HY := Lib.hid ((hb.block _ (by omega)).trans HY.out)
  replace HC0 := Lib.hid ((hb.block _ (Array.getElem?_eq_some_iff.1 HC0.out).1).trans HC0.out); replace HV0 := Lib.hid (GHold.later HV0.out hb)
  replace HC1 := Lib.hid ((hb.block _ (Array.getElem?_eq_some_iff.1 HC1.out).1).trans HC1.out); replace HV1 := Lib.hid (GHold.later HV1.out hb)
  replace HC2 := Lib.hid ((hb.block _ (Array.getElem?_eq_some_iff.1 HC2.out).1).trans HC2.out); replace HV2 := Lib.hid (GHold.later HV2.out hb)
  replace HC3 := Lib.hid ((hb.block _ (Array.getElem?_eq_some_iff.1 HC3.out).1).trans HC3.out); replace HV3 := Lib.hid (GHold.later HV3.out hb)
  replace HB := Lib.hid (HB.out.trans (hb.mono HB.out.size))
  replace HSX : Hid (w.heap.size + 1 < z4.heap.size) := Lib.hid (Nat.lt_of_lt_of_le hsx hb.size)
  clear hb hsx
  go_wp2_with fail
  refine pieceEnd_normal ⟨HF.out, ?_⟩
  clear HF
  refine wpGrow_nil ?_
  repeat (go_big_quiet_step (fail))
  refine wpQuiet_nil ?_
  go_wp2_with fail
  go_ret
  exact ⟨rfl, HB.out⟩
end Go.Proofs.Ytnmpbjgccbnomaa
/- What layer 11 gives is proved of the program's own functions. -/
namespace Go.Proofs.Ytnmpbjgccbnomaa
open Go.RowKit
theorem graphC : GraphC where
  check G v w h he hg := checkGr_any G v w h he hg
  with_ G v e w h he hg := withGr_any G v e w h he hg
  without G v fr tu w h he hg := withoutGr_any G v fr tu w h he hg
  out G v key w h hg := outGr_any G v key w h hg.few.1
  in_ G v key w h hg := inGr_any G v key w h hg.few.1
  level G v lv w h hg := levelGr_any G v lv w h hg.few.1
theorem graphS : GraphS where
  base := graphC
  same G K v u w h h2 he hg _ _ := sameGr_any G K v u w h h2 he hg
end Go.Proofs.Ytnmpbjgccbnomaa
/- The sanity check of the laws of layer 11. -/
namespace Go.Proofs.Ytnmpbjgccbnomaa
open Go.RowKit
def gr0 : Gr := ⟨3, [], []⟩
def gr1 : Gr := ⟨3, [⟨0, 2, 2⟩], []⟩
theorem with_gr0 : withG gr0 ⟨0, 2, 2⟩ = (gr1, 0) := by kernel_rfl
theorem without_gr1 : withoutG gr1 0 2 = (gr0, 0) := by kernel_rfl
theorem check_gr1 : checkG gr1 = 0 := by kernel_rfl
theorem check_65 : checkG ⟨65, [], []⟩ = 14 := by kernel_rfl
theorem good_gr1 : Good11 gr1 := (okG_iff gr1).1 (by kernel_rfl)
theorem out_gr1 : outS gr1.es 0 = [2] := by kernel_rfl
theorem in_gr1 : inS gr1.es 2 = [0] := by kernel_rfl
theorem GHold.bare (w : World) (z : Int) : GHold w ⟨z, [], []⟩ (.agg #[.int .i64 z, .slice none 0 0, .slice none 0 0]) := GOwn.hold (B := 0) ⟨_, _, rfl, World.ownsRow_nil _ _ _ _, World.ownsRow_nil _ _ _ _⟩
set_option maxRecDepth 100000 in
set_option maxHeartbeats 4000000 in
theorem awake11_any (H : GraphC) (w : World) : Calls Try.prog 6 #[] w (SaysL (.bool true) w) := by
  have HW1 := Lib.hid with_gr0; have HW2 := Lib.hid without_gr1; have HC1 := Lib.hid check_gr1; have HC65 := Lib.hid check_65; have HO1 := Lib.hid out_gr1; have HI1 := Lib.hid in_gr1; have HGD := Lib.hid good_gr1
  go_enter Try.func6, Try.ntmps6
  go_wp2_with fail
  refine (H.with_ gr0 _ ⟨0, 2, 2⟩ w (GHold.bare w 3) (by decide) (by decide)).mono ?_
  rw [HW1.out]
  rintro e w1 ⟨v1, rfl, hv, hb⟩
  have HB := Lib.hid hb
  have HV1 := Lib.hid hv
  obtain ⟨A, n, c, B, m, k, rfl, ha, -⟩ := hv
  have hn : n = 1 := (ERow.len ha).symm
  subst hn
  clear ha hb HW1
  go_upto_region 2 with (refine wpList_store_new rfl 25 (.tmp 1) (.tmp 10) rfl 25 _ #[.int .i64 3, .slice A 1 c, .slice B m k] rfl rfl gr_size rfl (by simp [Value.oneCell']) ?_)
  have hb := one_new w1 (.cells #[.int .i64 3, .slice A 1 c, .slice B m k] 25)
  have HX : Hid ((w1.alloc (.cells #[.int .i64 3, .slice A 1 c, .slice B m k] 25)).heap[w1.heap.size]? = some (.cells #[.int .i64 3, .slice A 1 c, .slice B m k] 25 (0, 0))) := Lib.hid (heap_alloc_new _ _)
  replace HV1 := Lib.hid (GHold.later HV1.out hb)
  replace HB := Lib.hid (HB.out.trans (hb.mono HB.out.size))
  clear hb
  generalize w1.alloc (.cells #[.int .i64 3, .slice A 1 c, .slice B m k] 25) = b1 at *
  generalize w1.heap.size = g1 at *
  try dsimp only [Act.put]
  go_wp2_with (refine wpList_load_row rfl 25 (.tmp 1) rfl g1 rfl 25 #[.int .i64 3, .slice A 1 c, .slice B m k] (0, 0) _ HX.out Try.underlying25 rfl gr_size ?_)
  refine (H.without gr1 _ 0 2 b1 HV1.out (by decide) (by decide)).mono ?_
  rw [HW2.out]
  rintro e w2 ⟨v2, rfl, hv, hb⟩
  replace HV1 := Lib.hid (GHold.later HV1.out hb)
  replace HX := Lib.hid ((hb.block _ (Array.getElem?_eq_some_iff.1 HX.out).1).trans HX.out)
  replace HB := Lib.hid (HB.out.trans (hb.mono HB.out.size))
  obtain ⟨A2, n2, c2, B2, m2, k2, rfl, ha, -⟩ := hv
  have hn : n2 = 0 := (ERow.len ha).symm
  subst hn
  clear ha hb HW2
  go_upto_region 3 with (refine wpList_store_new rfl 25 (.tmp 3) (.tmp 15) rfl 25 _ #[.int .i64 3, .slice A2 0 c2, .slice B2 m2 k2] rfl rfl gr_size rfl (by simp [Value.oneCell']) ?_)
  have hb := one_new w2 (.cells #[.int .i64 3, .slice A2 0 c2, .slice B2 m2 k2] 25)
  have HY : Hid ((w2.alloc (.cells #[.int .i64 3, .slice A2 0 c2, .slice B2 m2 k2] 25)).heap[w2.heap.size]? = some (.cells #[.int .i64 3, .slice A2 0 c2, .slice B2 m2 k2] 25 (0, 0))) := Lib.hid (heap_alloc_new _ _)
  replace HV1 := Lib.hid (GHold.later HV1.out hb)
  replace HX := Lib.hid ((hb.block _ (Array.getElem?_eq_some_iff.1 HX.out).1).trans HX.out)
  replace HB := Lib.hid (HB.out.trans (hb.mono HB.out.size))
  clear hb
  generalize w2.alloc (.cells #[.int .i64 3, .slice A2 0 c2, .slice B2 m2 k2] 25) = b2 at *
  generalize w2.heap.size = g2 at *
  try dsimp only [Act.put]
  go_wp2_with (refine wpList_load_row rfl 25 (.tmp 1) rfl g1 rfl 25 #[.int .i64 3, .slice A 1 c, .slice B m k] (0, 0) _ HX.out Try.underlying25 rfl gr_size ?_)
  refine (H.out gr1 _ 0 b2 HV1.out HGD.out).mono ?_
  rw [HO1.out]
  rintro e w3 ⟨A3, n3, c3, rfl, hr, hb⟩
  replace HV1 := Lib.hid (GHold.later HV1.out hb)
  replace HX := Lib.hid ((hb.block _ (Array.getElem?_eq_some_iff.1 HX.out).1).trans HX.out)
  replace HY := Lib.hid ((hb.block _ (Array.getElem?_eq_some_iff.1 HY.out).1).trans HY.out)
  replace HB := Lib.hid (HB.out.trans (hb.mono HB.out.size))
  have hn3 : n3 = 1 := hr.len.symm
  subst hn3
  have HR := Lib.hid hr
  clear hb hr HO1
  have hx1 : w3.cell? ⟨g1, 1, none⟩ = some (.slice A 1 c) := (cell_of_row _ _ 1 _ _ _ HX.out).trans rfl
  have hy1 : w3.cell? ⟨g2, 1, none⟩ = some (.slice A2 0 c2) := (cell_of_row _ _ 1 _ _ _ HY.out).trans rfl
  go_wp2_with (refine wpList_load_rowG rfl 25 (.tmp 1) rfl g1 rfl 25 #[.int .i64 3, .slice A 1 c, .slice B m k] (0, 0) _ HX.out Try.underlying25 rfl gr_size ?_)
  clear hx1 hy1
  refine (H.check gr1 _ w3 HV1.out (by decide) (by decide)).mono ?_
  rw [HC1.out]
  rintro e w4 ⟨rfl, hb⟩
  replace HV1 := Lib.hid (GHold.later HV1.out hb)
  replace HR := Lib.hid (HR.out.later hb)
  replace HX := Lib.hid ((hb.block _ (Array.getElem?_eq_some_iff.1 HX.out).1).trans HX.out)
  replace HB := Lib.hid (HB.out.trans (hb.mono HB.out.size))
  clear hb HC1 HY
  obtain ⟨b, off, hA, hc⟩ := IRow.cell HR.out 0 (by decide)
  subst hA
  have h01 : 0 < 1 := Nat.one_pos
  have hc2 : w4.cell? ⟨b, off, none⟩ = some (.int .i64 2) := hc
  clear hc
  go_wp2_with (refine wpList_load_rowG rfl 25 (.tmp 1) rfl g1 rfl 25 #[.int .i64 3, .slice A 1 c, .slice B m k] (0, 0) _ HX.out Try.underlying25 rfl gr_size ?_)
  try go_simp
  try go_wp2_with (refine wpList_load_rowG rfl 25 (.tmp 1) rfl g1 rfl 25 #[.int .i64 3, .slice A 1 c, .slice B m k] (0, 0) _ HX.out Try.underlying25 rfl gr_size ?_)
  try go_simp
  try go_wp2_with (refine wpList_load_rowG rfl 25 (.tmp 1) rfl g1 rfl 25 #[.int .i64 3, .slice A 1 c, .slice B m k] (0, 0) _ HX.out Try.underlying25 rfl gr_size ?_)
  try go_simp
  try go_wp2_with (refine wpList_load_rowG rfl 25 (.tmp 1) rfl g1 rfl 25 #[.int .i64 3, .slice A 1 c, .slice B m k] (0, 0) _ HX.out Try.underlying25 rfl gr_size ?_)
  try go_simp
  try go_wp2_with (refine wpList_load_rowG rfl 25 (.tmp 1) rfl g1 rfl 25 #[.int .i64 3, .slice A 1 c, .slice B m k] (0, 0) _ HX.out Try.underlying25 rfl gr_size ?_)
  clear hc2
  refine (H.in_ gr1 _ 2 w4 HV1.out HGD.out).mono ?_
  rw [HI1.out]
  rintro e w5 ⟨A5, n5, c5, rfl, hr, hb⟩
  have hn5 : n5 = 1 := hr.len.symm
  subst hn5
  replace HB := Lib.hid (HB.out.trans (hb.mono HB.out.size))
  clear hb hr HI1 HV1 HR HX
  go_wp2_with fail
  refine (H.check ⟨65, [], []⟩ _ w5 (GHold.bare w5 65) (by decide) (by decide)).mono ?_
  rw [HC65.out]
  rintro e w6 ⟨rfl, hb⟩
  replace HB := Lib.hid (HB.out.trans (hb.mono HB.out.size))
  clear hb
  go_wp2_with fail
  go_ret
  exact ⟨rfl, HB.out⟩
end Go.Proofs.Ytnmpbjgccbnomaa
/- The walk of the law GraphRaw, over any program that gives what layer 11 asks. -/
namespace Go.Proofs.Ytnmpbjgccbnomaa
open Go.RowKit
set_option maxRecDepth 100000 in
set_option maxHeartbeats 4000000 in
theorem graw_any (H : GraphS) (G O : Gr) (v u : Value) (e : Edg) (w : World) (h : GHold w G v) (h2 : GHold w O u) : Calls Try.prog 3 #[v, .agg e.arr, u] w (SaysL (.bool true) w) := by
  have HAW : Hid (∀ y, Calls Try.prog 6 #[] y (SaysL (.bool true) y)) := Lib.hid fun y => awake11_any H.base y
  have HGH := Lib.hid h; have HOH := Lib.hid h2
  obtain ⟨A, n, c, B, m, k, rfl, ha, hb⟩ := h
  obtain ⟨A2, n2, c2, B2, m2, k2, rfl, ha2, hb2⟩ := h2
  have HN := Lib.hid (ERow.len ha); have HM := Lib.hid hb.len; have HN2 := Lib.hid (ERow.len ha2); have HM2 := Lib.hid hb2.len
  have HRA := Lib.hid ha; have HRB := Lib.hid hb; have HRA2 := Lib.hid ha2; have HRB2 := Lib.hid hb2
  clear ha hb ha2 hb2
  have HB : Hid (Below w.heap.size w (((w.alloc (.cells #[.int .i64 G.sz, .slice A n c, .slice B m k] 25)).alloc (.cells e.arr 27)).alloc (.cells #[.int .i64 O.sz, .slice A2 n2 c2, .slice B2 m2 k2] 25))) := Lib.hid ((one_new w _).trans (((one_new _ _).mono (by simp)).trans ((one_new _ _).mono (by simp; omega))))
  have HX : Hid ((((w.alloc (.cells #[.int .i64 G.sz, .slice A n c, .slice B m k] 25)).alloc (.cells e.arr 27)).alloc (.cells #[.int .i64 O.sz, .slice A2 n2 c2, .slice B2 m2 k2] 25)).heap[w.heap.size]? = some (.cells #[.int .i64 G.sz, .slice A n c, .slice B m k] 25 (0, 0))) := Lib.hid ((Below.heap_alloc _ _ _ (by simp; omega)).trans ((Below.heap_alloc _ _ _ (by simp)).trans (heap_alloc_new _ _)))
  have HY : Hid ((((w.alloc (.cells #[.int .i64 G.sz, .slice A n c, .slice B m k] 25)).alloc (.cells e.arr 27)).alloc (.cells #[.int .i64 O.sz, .slice A2 n2 c2, .slice B2 m2 k2] 25)).heap[w.heap.size + 1]? = some (.cells e.arr 27 (0, 0))) := Lib.hid ((Below.heap_alloc _ _ _ (by simp)).trans (heap_alloc2_new _ _ _))
  have HZ : Hid ((((w.alloc (.cells #[.int .i64 G.sz, .slice A n c, .slice B m k] 25)).alloc (.cells e.arr 27)).alloc (.cells #[.int .i64 O.sz, .slice A2 n2 c2, .slice B2 m2 k2] 25)).heap[w.heap.size + 2]? = some (.cells #[.int .i64 O.sz, .slice A2 n2 c2, .slice B2 m2 k2] 25 (0, 0))) := Lib.hid (by
    have h := heap_alloc_new ((w.alloc (.cells #[.int .i64 G.sz, .slice A n c, .slice B m k] 25)).alloc (.cells e.arr 27)) (.cells #[.int .i64 O.sz, .slice A2 n2 c2, .slice B2 m2 k2] 25)
    have hs : ((w.alloc (.cells #[.int .i64 G.sz, .slice A n c, .slice B m k] 25)).alloc (.cells e.arr 27)).heap.size = w.heap.size + 2 := by simp
    rw [hs] at h
    exact h)
  go_enter Try.func3, Try.ntmps3
  go_upto_region 1 with fail
  generalize (((w.alloc (.cells #[.int .i64 G.sz, .slice A n c, .slice B m k] 25)).alloc (.cells e.arr 27)).alloc (.cells #[.int .i64 O.sz, .slice A2 n2 c2, .slice B2 m2 k2] 25)) = y0 at *
  have hx1 : y0.cell? ⟨w.heap.size, 1, none⟩ = some (.slice A n c) := (cell_of_row _ _ 1 _ _ _ HX.out).trans rfl
  have hx2 : y0.cell? ⟨w.heap.size, 2, none⟩ = some (.slice B m k) := (cell_of_row _ _ 2 _ _ _ HX.out).trans rfl
  have hz1 : y0.cell? ⟨w.heap.size + 2, 1, none⟩ = some (.slice A2 n2 c2) := (cell_of_row _ _ 1 _ _ _ HZ.out).trans rfl
  have hz2 : y0.cell? ⟨w.heap.size + 2, 2, none⟩ = some (.slice B2 m2 k2) := (cell_of_row _ _ 2 _ _ _ HZ.out).trans rfl
  by_cases q0 : (n : Int) > 60
  · have b0 : decide ((n : Int) > 60) = true := decide_eq_true q0
    clear q0
    go_wp2_with fail
    refine (HAW.out y0).mono ?_
    rintro e1 w1 ⟨rfl, hb⟩
    replace HB := Lib.hid (HB.out.trans (hb.mono HB.out.size)); clear hb
    go_wp2_with fail
    go_ret
    exact ⟨rfl, HB.out⟩
  · have b0 : decide ((n : Int) > 60) = false := decide_eq_false q0
    by_cases q1 : (m : Int) > 100
    · have b1 : decide ((m : Int) > 100) = true := decide_eq_true q1
      clear q1
      go_wp2_with fail
      refine (HAW.out y0).mono ?_
      rintro e1 w1 ⟨rfl, hb⟩
      replace HB := Lib.hid (HB.out.trans (hb.mono HB.out.size)); clear hb
      go_wp2_with fail
      go_ret
      exact ⟨rfl, HB.out⟩
    · have b1 : decide ((m : Int) > 100) = false := decide_eq_false q1
      by_cases q2 : (n2 : Int) > 60
      · have b2 : decide ((n2 : Int) > 60) = true := decide_eq_true q2
        clear q2
        go_wp2_with fail
        refine (HAW.out y0).mono ?_
        rintro e1 w1 ⟨rfl, hb⟩
        replace HB := Lib.hid (HB.out.trans (hb.mono HB.out.size)); clear hb
        go_wp2_with fail
        go_ret
        exact ⟨rfl, HB.out⟩
      · have b2 : decide ((n2 : Int) > 60) = false := decide_eq_false q2
        by_cases q3 : (m2 : Int) > 100
        · have b3 : decide ((m2 : Int) > 100) = true := decide_eq_true q3
          clear q3
          go_wp2_with fail
          refine (HAW.out y0).mono ?_
          rintro e1 w1 ⟨rfl, hb⟩
          replace HB := Lib.hid (HB.out.trans (hb.mono HB.out.size)); clear hb
          go_wp2_with fail
          go_ret
          exact ⟨rfl, HB.out⟩
        · have b3 : decide ((m2 : Int) > 100) = false := decide_eq_false q3
          have HGE : Hid (G.es.length ≤ 100000) := Lib.hid (by rw [HN.out]; omega)
          have HGG : Hid (G.gn.length ≤ 100000) := Lib.hid (by rw [HM.out]; omega)
          have HOE : Hid (O.es.length ≤ 100000) := Lib.hid (by rw [HN2.out]; omega)
          have HOG : Hid (O.gn.length ≤ 100000) := Lib.hid (by rw [HM2.out]; omega)
          have HNN : Hid (n ≤ 100000 ∧ m ≤ 100000) := Lib.hid ⟨by omega, by omega⟩
          clear q0 q1 q2 q3
          go_upto_region 3 with fail
          clear b0 b1 b2 b3 hx1 hx2 hz1 hz2
          have H1 : Hid (∀ y, Below w.heap.size w y → Calls Try.prog 7 #[.agg #[.int .i64 G.sz, .slice A n c, .slice B m k], .agg e.arr] y (SaysL (.bool true) y)) := Lib.hid fun y hy => agree11_any H.base G _ e y (HGH.out.later hy) HGE.out HGG.out
          have H2 : Hid (∀ y, Below w.heap.size w y → Calls Try.prog 8 #[.agg #[.int .i64 G.sz, .slice A n c, .slice B m k], .agg #[.int .i64 O.sz, .slice A2 n2 c2, .slice B2 m2 k2]] y (SaysL (.bool (sameG G.sz G.es G.gn O.sz O.es O.gn)) y)) := Lib.hid fun y hy => H.same G O _ _ y (HGH.out.later hy) (HOH.out.later hy) HGE.out HGG.out HOE.out HOG.out
          have H3 : Hid (∀ y, Below w.heap.size w y → Calls Try.prog 9 #[.agg #[.int .i64 G.sz, .slice A n c, .slice B m k], .agg #[.int .i64 O.sz, .slice A2 n2 c2, .slice B2 m2 k2]] y (SaysL (.bool (sameG G.sz G.es G.gn O.sz O.es O.gn)) y)) := Lib.hid fun y hy => gsame_any G.sz A n c G.es B m k G.gn O.sz A2 n2 c2 O.es B2 m2 k2 O.gn y (GRow.later HRA.out hy) (HRB.out.later hy) (GRow.later HRA2.out hy) (HRB2.out.later hy) HNN.out.1 HNN.out.2
          have H4 : Hid (∀ y, Below w.heap.size w y → Calls Try.prog 8 #[.agg #[.int .i64 G.sz, .slice A n c, .slice B m k], .agg #[.int .i64 G.sz, .slice A n c, .slice B m k]] y (SaysL (.bool true) y)) := Lib.hid fun y hy => by
            have h := H.same G G _ _ y (HGH.out.later hy) (HGH.out.later hy) HGE.out HGG.out HGE.out HGG.out
            rwa [sameG_self] at h
          generalize sameG G.sz G.es G.gn O.sz O.es O.gn = SG at *
          have hcs : (SG == SG) = true := by simp
          clear HGH HOH HRA HRB HRA2 HRB2 HN HM HN2 HM2 HGE HGG HOE HOG HNN
          refine wp_region_grow (by kernel_rfl) Later Later.refl (fun _ _ _ => Later.trans) [19, 20] [([], 0), ([1, 2, 3], 4), ([5, 6, 7, 8, 10, 11], 9), ([], 12), ([13, 14, 15, 16, 17], 18)] (by kernel_rfl) (by kernel_rfl) (by kernel_rfl) ?_
          simp only [List.map_cons, List.map_nil, pick, List.getD_cons_zero, List.getD_cons_succ]
          have hb : Below y0.heap.size y0 y0.drew := (Below.refl _ _).drew
          replace HX := Lib.hid ((hb.block _ (Array.getElem?_eq_some_iff.1 HX.out).1).trans HX.out)
          replace HY := Lib.hid ((hb.block _ (Array.getElem?_eq_some_iff.1 HY.out).1).trans HY.out)
          replace HZ := Lib.hid ((hb.block _ (Array.getElem?_eq_some_iff.1 HZ.out).1).trans HZ.out)
          replace HB := Lib.hid (HB.out.trans (hb.mono HB.out.size))
          clear hb
          generalize y0.drew = z0 at *
          refine wpGrow_cons ?_
          refine wpQuiet_nil ?_
          go_wp2_with fail
          refine (HAW.out z0).mono ?_
          rintro e1 z1 ⟨rfl, hb⟩
          have HF : Hid (Later z0 z1) := Lib.hid hb
          replace HX := Lib.hid ((hb.block _ (Array.getElem?_eq_some_iff.1 HX.out).1).trans HX.out)
          replace HY := Lib.hid ((hb.block _ (Array.getElem?_eq_some_iff.1 HY.out).1).trans HY.out)
          replace HZ := Lib.hid ((hb.block _ (Array.getElem?_eq_some_iff.1 HZ.out).1).trans HZ.out)
          replace HB := Lib.hid (HB.out.trans (hb.mono HB.out.size))
          clear hb
          go_wp2_with fail
          refine pieceEnd_normal ⟨HF.out, ?_⟩
          clear HF
          have hl0 : ∀ x, (loadVar 25 ⟨w.heap.size, 0, none⟩).run Try.prog (fut Later z1 x) = .ok (.agg #[.int .i64 G.sz, .slice A n c, .slice B m k]) (fut Later z1 x) := fun x => run_loadVar_row _ (w.heap.size) 25 25 #[.int .i64 G.sz, .slice A n c, .slice B m k] (0, 0) _ (((fut_ok Later.refl z1 x).block _ (Array.getElem?_eq_some_iff.1 HX.out).1).trans HX.out) Try.underlying25 rfl gr_size
          have hl1 : ∀ x, (loadVar 27 ⟨w.heap.size + 1, 0, none⟩).run Try.prog (fut Later z1 x) = .ok (.agg e.arr) (fut Later z1 x) := fun x => run_loadVar_row _ (w.heap.size + 1) 27 27 e.arr (0, 0) _ (((fut_ok Later.refl z1 x).block _ (Array.getElem?_eq_some_iff.1 HY.out).1).trans HY.out) Try.underlying27 rfl e.info
          have hl2 : ∀ x, (loadVar 25 ⟨w.heap.size + 2, 0, none⟩).run Try.prog (fut Later z1 x) = .ok (.agg #[.int .i64 O.sz, .slice A2 n2 c2, .slice B2 m2 k2]) (fut Later z1 x) := fun x => run_loadVar_row _ (w.heap.size + 2) 25 25 #[.int .i64 O.sz, .slice A2 n2 c2, .slice B2 m2 k2] (0, 0) _ (((fut_ok Later.refl z1 x).block _ (Array.getElem?_eq_some_iff.1 HZ.out).1).trans HZ.out) Try.underlying25 rfl gr_size
          refine wpGrow_cons ?_
          repeat (first | (refine wpQuiet_load rfl 25 (.tmp 3) rfl ⟨w.heap.size, 0, none⟩ rfl (.agg #[.int .i64 G.sz, .slice A n c, .slice B m k]) (fun w' h => by obtain ⟨x, rfl⟩ := h; exact hl0 x) ?_; simp only [Act.put, List.setIfInBounds_toArray, List.set_cons_succ, List.set_cons_zero]) | (refine wpQuiet_load rfl 27 (.tmp 4) rfl ⟨w.heap.size + 1, 0, none⟩ rfl (.agg e.arr) (fun w' h => by obtain ⟨x, rfl⟩ := h; exact hl1 x) ?_; simp only [Act.put, List.setIfInBounds_toArray, List.set_cons_succ, List.set_cons_zero]) | (refine wpQuiet_load rfl 25 (.tmp 5) rfl ⟨w.heap.size + 2, 0, none⟩ rfl (.agg #[.int .i64 O.sz, .slice A2 n2 c2, .slice B2 m2 k2]) (fun w' h => by obtain ⟨x, rfl⟩ := h; exact hl2 x) ?_; simp only [Act.put, List.setIfInBounds_toArray, List.set_cons_succ, List.set_cons_zero]) | go_big_quiet_step (fail))
          refine wpQuiet_nil ?_
          clear hl0 hl1 hl2
          go_wp2_with fail
          refine (H1.out z1 HB.out).mono ?_
          rintro e1 z2 ⟨rfl, hb⟩
          have HF : Hid (Later z1 z2) := Lib.hid hb
          replace HX := Lib.hid ((hb.block _ (Array.getElem?_eq_some_iff.1 HX.out).1).trans HX.out)
          replace HY := Lib.hid ((hb.block _ (Array.getElem?_eq_some_iff.1 HY.out).1).trans HY.out)
          replace HZ := Lib.hid ((hb.block _ (Array.getElem?_eq_some_iff.1 HZ.out).1).trans HZ.out)
          replace HB := Lib.hid (HB.out.trans (hb.mono HB.out.size))
          clear hb
          go_wp2_with fail
          refine pieceEnd_normal ⟨HF.out, ?_⟩
          clear HF
          have hl0 : ∀ x, (loadVar 25 ⟨w.heap.size, 0, none⟩).run Try.prog (fut Later z2 x) = .ok (.agg #[.int .i64 G.sz, .slice A n c, .slice B m k]) (fut Later z2 x) := fun x => run_loadVar_row _ (w.heap.size) 25 25 #[.int .i64 G.sz, .slice A n c, .slice B m k] (0, 0) _ (((fut_ok Later.refl z2 x).block _ (Array.getElem?_eq_some_iff.1 HX.out).1).trans HX.out) Try.underlying25 rfl gr_size
          have hl1 : ∀ x, (loadVar 27 ⟨w.heap.size + 1, 0, none⟩).run Try.prog (fut Later z2 x) = .ok (.agg e.arr) (fut Later z2 x) := fun x => run_loadVar_row _ (w.heap.size + 1) 27 27 e.arr (0, 0) _ (((fut_ok Later.refl z2 x).block _ (Array.getElem?_eq_some_iff.1 HY.out).1).trans HY.out) Try.underlying27 rfl e.info
          have hl2 : ∀ x, (loadVar 25 ⟨w.heap.size + 2, 0, none⟩).run Try.prog (fut Later z2 x) = .ok (.agg #[.int .i64 O.sz, .slice A2 n2 c2, .slice B2 m2 k2]) (fut Later z2 x) := fun x => run_loadVar_row _ (w.heap.size + 2) 25 25 #[.int .i64 O.sz, .slice A2 n2 c2, .slice B2 m2 k2] (0, 0) _ (((fut_ok Later.refl z2 x).block _ (Array.getElem?_eq_some_iff.1 HZ.out).1).trans HZ.out) Try.underlying25 rfl gr_size
          refine wpGrow_cons ?_
          repeat (first | (refine wpQuiet_load rfl 25 (.tmp 3) rfl ⟨w.heap.size, 0, none⟩ rfl (.agg #[.int .i64 G.sz, .slice A n c, .slice B m k]) (fun w' h => by obtain ⟨x, rfl⟩ := h; exact hl0 x) ?_; simp only [Act.put, List.setIfInBounds_toArray, List.set_cons_succ, List.set_cons_zero]) | (refine wpQuiet_load rfl 27 (.tmp 4) rfl ⟨w.heap.size + 1, 0, none⟩ rfl (.agg e.arr) (fun w' h => by obtain ⟨x, rfl⟩ := h; exact hl1 x) ?_; simp only [Act.put, List.setIfInBounds_toArray, List.set_cons_succ, List.set_cons_zero]) | (refine wpQuiet_load rfl 25 (.tmp 5) rfl ⟨w.heap.size + 2, 0, none⟩ rfl (.agg #[.int .i64 O.sz, .slice A2 n2 c2, .slice B2 m2 k2]) (fun w' h => by obtain ⟨x, rfl⟩ := h; exact hl2 x) ?_; simp only [Act.put, List.setIfInBounds_toArray, List.set_cons_succ, List.set_cons_zero]) | go_big_quiet_step (fail))
          refine wpQuiet_nil ?_
          clear hl0 hl1 hl2
          go_wp2_with fail
          refine (H2.out z2 HB.out).mono ?_
          rintro e1 z3 ⟨rfl, hb⟩
          have HF : Hid (Later z2 z3) := Lib.hid hb
          replace HX := Lib.hid ((hb.block _ (Array.getElem?_eq_some_iff.1 HX.out).1).trans HX.out)
          replace HY := Lib.hid ((hb.block _ (Array.getElem?_eq_some_iff.1 HY.out).1).trans HY.out)
          replace HZ := Lib.hid ((hb.block _ (Array.getElem?_eq_some_iff.1 HZ.out).1).trans HZ.out)
          replace HB := Lib.hid (HB.out.trans (hb.mono HB.out.size))
          clear hb
          go_wp2_with fail
          refine pieceEnd_normal ⟨HF.out, ?_⟩
          clear HF
          refine wpGrow_cons ?_
          refine wpQuiet_nil ?_
          go_wp2_with fail
          refine (H3.out z3 HB.out).mono ?_
          rintro e1 z4 ⟨rfl, hb⟩
          have HF : Hid (Later z3 z4) := Lib.hid hb
          replace HX := Lib.hid ((hb.block _ (Array.getElem?_eq_some_iff.1 HX.out).1).trans HX.out)
          replace HY := Lib.hid ((hb.block _ (Array.getElem?_eq_some_iff.1 HY.out).1).trans HY.out)
          replace HZ := Lib.hid ((hb.block _ (Array.getElem?_eq_some_iff.1 HZ.out).1).trans HZ.out)
          replace HB := Lib.hid (HB.out.trans (hb.mono HB.out.size))
          clear hb
          go_wp2_with fail
          refine pieceEnd_normal ⟨HF.out, ?_⟩
          clear HF
          have hl0 : ∀ x, (loadVar 25 ⟨w.heap.size, 0, none⟩).run Try.prog (fut Later z4 x) = .ok (.agg #[.int .i64 G.sz, .slice A n c, .slice B m k]) (fut Later z4 x) := fun x => run_loadVar_row _ (w.heap.size) 25 25 #[.int .i64 G.sz, .slice A n c, .slice B m k] (0, 0) _ (((fut_ok Later.refl z4 x).block _ (Array.getElem?_eq_some_iff.1 HX.out).1).trans HX.out) Try.underlying25 rfl gr_size
          have hl1 : ∀ x, (loadVar 27 ⟨w.heap.size + 1, 0, none⟩).run Try.prog (fut Later z4 x) = .ok (.agg e.arr) (fut Later z4 x) := fun x => run_loadVar_row _ (w.heap.size + 1) 27 27 e.arr (0, 0) _ (((fut_ok Later.refl z4 x).block _ (Array.getElem?_eq_some_iff.1 HY.out).1).trans HY.out) Try.underlying27 rfl e.info
          have hl2 : ∀ x, (loadVar 25 ⟨w.heap.size + 2, 0, none⟩).run Try.prog (fut Later z4 x) = .ok (.agg #[.int .i64 O.sz, .slice A2 n2 c2, .slice B2 m2 k2]) (fut Later z4 x) := fun x => run_loadVar_row _ (w.heap.size + 2) 25 25 #[.int .i64 O.sz, .slice A2 n2 c2, .slice B2 m2 k2] (0, 0) _ (((fut_ok Later.refl z4 x).block _ (Array.getElem?_eq_some_iff.1 HZ.out).1).trans HZ.out) Try.underlying25 rfl gr_size
          refine wpGrow_cons ?_
          repeat (first | (refine wpQuiet_load rfl 25 (.tmp 3) rfl ⟨w.heap.size, 0, none⟩ rfl (.agg #[.int .i64 G.sz, .slice A n c, .slice B m k]) (fun w' h => by obtain ⟨x, rfl⟩ := h; exact hl0 x) ?_; simp only [Act.put, List.setIfInBounds_toArray, List.set_cons_succ, List.set_cons_zero]) | (refine wpQuiet_load rfl 27 (.tmp 4) rfl ⟨w.heap.size + 1, 0, none⟩ rfl (.agg e.arr) (fun w' h => by obtain ⟨x, rfl⟩ := h; exact hl1 x) ?_; simp only [Act.put, List.setIfInBounds_toArray, List.set_cons_succ, List.set_cons_zero]) | (refine wpQuiet_load rfl 25 (.tmp 5) rfl ⟨w.heap.size + 2, 0, none⟩ rfl (.agg #[.int .i64 O.sz, .slice A2 n2 c2, .slice B2 m2 k2]) (fun w' h => by obtain ⟨x, rfl⟩ := h; exact hl2 x) ?_; simp only [Act.put, List.setIfInBounds_toArray, List.set_cons_succ, List.set_cons_zero]) | go_big_quiet_step (fail))
          refine wpQuiet_nil ?_
          clear hl0 hl1 hl2
          go_wp2_with fail
          refine (H4.out z4 HB.out).mono ?_
          rintro e1 z5 ⟨rfl, hb⟩
          have HF : Hid (Later z4 z5) := Lib.hid hb
          replace HX := Lib.hid ((hb.block _ (Array.getElem?_eq_some_iff.1 HX.out).1).trans HX.out)
          replace HY := Lib.hid ((hb.block _ (Array.getElem?_eq_some_iff.1 HY.out).1).trans HY.out)
          replace HZ := Lib.hid ((hb.block _ (Array.getElem?_eq_some_iff.1 HZ.out).1).trans HZ.out)
          replace HB := Lib.hid (HB.out.trans (hb.mono HB.out.size))
          clear hb
          go_wp2_with fail
          refine pieceEnd_normal ⟨HF.out, ?_⟩
          clear HF
          refine wpGrow_nil ?_
          repeat (go_big_quiet_step (fail))
          refine wpQuiet_nil ?_
          go_wp2_with fail
          go_ret
          exact ⟨rfl, HB.out⟩
end Go.Proofs.Ytnmpbjgccbnomaa
/- What a law's arguments are as rows of cells; what is asked of them behind the call. Plain facts over any program. -/
namespace Go.Proofs.Ytnmpbjgccbnomaa
open Go.ChangeShapes Go.WideShapes Go.ChangeAt Go.RowKit
section
variable {H : Type} {enc : TypeId × Value → H} {P : Program} {W W' : World}
/-- A slice of numbers of one kind that came in. -/
theorem open_nums {t e : TypeId} {k : IntKind} (ht : P.underlying t = some (.slice e)) (he : P.underlying e = some (.int k)) (hc : P.cellsOf e = 1) {base : Nat} {v : Value} {d : DataW H} {p : List MemPlace}
    (hval : Value.okWide P W .any base t v) (h : DataW.Trod enc P W 0 (fun _ => true) true t v d p) :
    ∃ (A : Option Addr) (n c : Nat) (zs : List Int), v = .slice A n c ∧ zs.length = n ∧ Row W A n c 1 (zs.map (Value.int k)) ∧ c ≤ maxLen ∧ ∀ z ∈ zs, (Lit.int k z).wf = true := by
  obtain ⟨a1, len, cap, rfl⟩ := okWide_slice ht hval
  obtain ⟨fuel, hf⟩ := h
  rcases open_ints ht he hc hf with ⟨hcs, hx⟩ | ⟨a, len', cap', zs, hcs, _, hl, hm, hz, hx, hcell, hwz⟩
  · simp [Value.cells] at hcs
    obtain ⟨rfl, rfl, rfl⟩ := hcs
    exact ⟨none, 0, 0, [], rfl, rfl, Row.nilRow _ _, Nat.zero_le _, fun _ h => by cases h⟩
  · simp [Value.cells] at hcs
    obtain ⟨rfl, rfl, rfl⟩ := hcs
    simp only [if_true] at hz
    refine ⟨some a, len, cap, zs.take len, rfl, by rw [List.length_take]; omega, ⟨by simp; omega, hl, fun e => (by cases e), fun ad e h0 => ?_⟩, hm, fun z hz' => hwz z (List.mem_of_mem_take hz')⟩
    injection e with e; subst e
    obtain ⟨ab, ao, spot⟩ := a
    have hspot : spot = none := by simpa [Addr.add] using World.cell?_spot (hcell 0 (by omega))
    subst hspot
    refine ⟨ab, ao, rfl, fun i hi => ?_⟩
    rw [Nat.mul_one] at hi
    have := hcell i (by omega)
    rw [Addr.add_lit] at this
    rw [this, List.getElem?_map, List.getElem?_take, if_pos hi, List.getElem?_eq_getElem (by omega)]
    simp [show i < zs.length by omega]
theorem open_i64s {t e : TypeId} (ht : P.underlying t = some (.slice e)) (he : P.underlying e = some (.int .i64)) (hc : P.cellsOf e = 1) {base : Nat} {v : Value} {d : DataW H} {p : List MemPlace}
    (hval : Value.okWide P W .any base t v) (h : DataW.Trod enc P W 0 (fun _ => true) true t v d p) : ∃ (A : Option Addr) (n c : Nat) (l : List Int), v = .slice A n c ∧ Row W A n c 1 (intsV l) ∧ c ≤ maxLen ∧ ∀ z ∈ l, -9223372036854775808 ≤ z ∧ z ≤ 9223372036854775807 := by
  obtain ⟨A, n, c, zs, rfl, _, hr, hm, hw⟩ := open_nums ht he hc hval h
  exact ⟨A, n, c, zs, rfl, hr, hm, fun z hz => bounds_i64 (hw z hz)⟩
theorem trodAll_below (hl : laidOutB P = true) (hb : Below W.heap.size W W') : ∀ {ts : List TypeId} {vs : List Value} {ds : List (DataW H)} {ps : List MemPlace}, (ts.all fun t => P.readableRec t && decide (t < P.types.size)) = true →
    DataW.TrodAll enc P W 0 (fun _ => true) true ts vs ds ps → DataW.TrodAll enc P W' 0 (fun b => decide (b < W.heap.size)) true ts vs ds ps
  | [], [], [], _, _, h => h
  | t :: ts, v :: vs, d :: ds, ps, hB, h => by
    have hlt := DataW.TrodAll.lt h
    obtain ⟨a, b, h1, h2, e⟩ := h
    simp only [List.all_cons, Bool.and_eq_true, decide_eq_true_eq] at hB
    subst e
    exact ⟨a, b, Below.trod hl hB.1.1 hB.1.2 h1 hb (fun x hx => hlt x (List.mem_append_left _ hx)), trodAll_below hl hb (by simpa using hB.2) h2, rfl⟩
/-- Behind a law that answered true and left below the old heap all as it was. -/
theorem law_post {f : Func} {s : ChangeSpec} {tb : TypeId} (hl : laidOutB P = true) (hres : f.resultTypes = #[tb]) (htb : P.underlying tb = some .bool) (hts : (f.params.toList.all fun t => P.readableRec t && decide (t < P.types.size)) = true) (hv : s.vars = [])
    {args : Array Value} {ds gs : List (DataW H)} {before : List MemPlace} (hW : DataW.Whole enc P f.params.toList s.vars false W args.toList ds gs before) (hfn : s.fn H (ds ++ gs) = { results := [.lit (.bool true)], args := ds }) (hb : Below W.heap.size W W') :
    ∃ v, Ending.returned (.bool true) = Ending.returned v ∧ s.post enc P f false true false false W args v W' := by
  have hW' := hW
  obtain ⟨p, q, hA, hV, rfl, _, _⟩ := hW
  refine ⟨_, rfl, ds, gs, _, [], p, [], hW', ?_, ?_, ?_, hb.frame _, fun h => by cases h⟩
  · rw [hfn, hres]; exact trodAll_mk1 (shut_bool htb _)
  · rw [hfn]; exact trodAll_below hl hb hts hA
  · rw [hfn, hv]; exact rfl
end
end Go.Proofs.Ytnmpbjgccbnomaa
