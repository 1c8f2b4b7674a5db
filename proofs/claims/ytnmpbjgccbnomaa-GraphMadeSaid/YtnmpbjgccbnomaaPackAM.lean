import Derived.Test.YtnmpbjgccbnomaaPackAK
import Derived.Test.YtnmpbjgccbnomaaGGraphP
/- Plain facts on how many edges leave and come. -/
namespace Go.Proofs.Ytnmpbjgccbnomaa
open Go.RowKit
theorem Good11.keys {G : Gr} (h : Good11 G) : (∀ e ∈ G.es, 0 ≤ e.fr ∧ e.fr < G.sz) ∧ (∀ e ∈ G.es, 0 ≤ e.tu ∧ e.tu < G.sz) := by
  have hk : ∀ e ∈ G.es, (0 ≤ e.fr ∧ e.fr < G.sz) ∧ (0 ≤ e.tu ∧ e.tu < G.sz) := fun e he => by
    have h1 := h.ends e he
    unfold endsB keyB at h1
    rw [Bool.and_eq_true, Bool.and_eq_true, Bool.and_eq_true, Bool.and_eq_true, decide_eq_true_eq, decide_eq_true_eq, decide_eq_true_eq, decide_eq_true_eq] at h1
    exact ⟨h1.1, h1.2.1⟩
  exact ⟨fun e he => (hk e he).1, fun e he => (hk e he).2⟩
theorem GOwn.but {D : Nat} {w w' : World} {B : Nat} {G : Gr} {v : Value} (h : GOwn w B G v) (hb : But D w w') (hD : D < B) : GOwn w' B G v := by
  obtain ⟨e, g, rfl, h1, h2⟩ := h
  exact ⟨e, g, rfl, own_keepL h1 fun q hq => hb.block q (own_lt h1 q hq) (by have := own_ge h1 q hq; omega), own_keepL h2 fun q hq => hb.block q (own_lt h2 q hq) (by have := own_ge h2 q hq; omega)⟩
end Go.Proofs.Ytnmpbjgccbnomaa
/- Plain facts on what counts: how many, and one resignation an author. -/
namespace Go.Proofs.Ytnmpbjgccbnomaa
open Go.RowKit
end Go.Proofs.Ytnmpbjgccbnomaa
/- The sanity check of the laws of layer 11. -/
namespace Go.Proofs.Ytnmpbjgccbnomaa
open Go.RowKit
def gr0 : Gr := ⟨3, [], []⟩
def gr1 : Gr := ⟨3, [⟨0, 2, 2⟩], []⟩
theorem with_gr0 : withG gr0 ⟨0, 2, 2⟩ = (gr1, 0) := by kernel_rfl
theorem without_gr1 : withoutG gr1 0 2 = (gr0, 0) := by kernel_rfl
theorem check_gr1 : checkG gr1 = 0 := by kernel_rfl
theorem check_65 : checkG ⟨65, [], []⟩ = 14 := by kernel_rfl
theorem good_gr1 : Good11 gr1 := (okG_iff gr1).1 (by kernel_rfl)
theorem out_gr1 : outS gr1.es 0 = [2] := by kernel_rfl
theorem in_gr1 : inS gr1.es 2 = [0] := by kernel_rfl
theorem GHold.bare (w : World) (z : Int) : GHold w ⟨z, [], []⟩ (.agg #[.int .i64 z, .slice none 0 0, .slice none 0 0]) := GOwn.hold (B := 0) ⟨_, _, rfl, World.ownsRow_nil _ _ _ _, World.ownsRow_nil _ _ _ _⟩
set_option maxRecDepth 100000 in
set_option maxHeartbeats 4000000 in
theorem awake11_any (H : GraphC) (w : World) : Calls Try.prog 6 #[] w (SaysL (.bool true) w) := by
  have HW1 := Lib.hid with_gr0; have HW2 := Lib.hid without_gr1; have HC1 := Lib.hid check_gr1; have HC65 := Lib.hid check_65; have HO1 := Lib.hid out_gr1; have HI1 := Lib.hid in_gr1; have HGD := Lib.hid good_gr1
  go_enter Try.func6, Try.ntmps6
  go_wp2_with fail
  refine (H.with_ gr0 _ ⟨0, 2, 2⟩ w (GHold.bare w 3) (by decide) (by decide)).mono ?_
  rw [HW1.out]
  rintro e w1 ⟨v1, rfl, hv, hb⟩
  have HB := Lib.hid hb
  have HV1 := Lib.hid hv
  obtain ⟨A, n, c, B, m, k, rfl, ha, -⟩ := hv
  have hn : n = 1 := (ERow.len ha).symm
  subst hn
  clear ha hb HW1
  go_upto_region 2 with (refine wpList_store_new rfl 25 (.tmp 1) (.tmp 10) rfl 25 _ #[.int .i64 3, .slice A 1 c, .slice B m k] rfl rfl gr_size rfl (by simp [Value.oneCell']) ?_)
  have hb := one_new w1 (.cells #[.int .i64 3, .slice A 1 c, .slice B m k] 25)
  have HX : Hid ((w1.alloc (.cells #[.int .i64 3, .slice A 1 c, .slice B m k] 25)).heap[w1.heap.size]? = some (.cells #[.int .i64 3, .slice A 1 c, .slice B m k] 25 (0, 0))) := Lib.hid (heap_alloc_new _ _)
  replace HV1 := Lib.hid (GHold.later HV1.out hb)
  replace HB := Lib.hid (HB.out.trans (hb.mono HB.out.size))
  clear hb
  generalize w1.alloc (.cells #[.int .i64 3, .slice A 1 c, .slice B m k] 25) = b1 at *
  generalize w1.heap.size = g1 at *
  try dsimp only [Act.put]
  go_wp2_with (refine wpList_load_row rfl 25 (.tmp 1) rfl g1 rfl 25 #[.int .i64 3, .slice A 1 c, .slice B m k] (0, 0) _ HX.out Try.underlying25 rfl gr_size ?_)
  refine (H.without gr1 _ 0 2 b1 HV1.out (by decide) (by decide)).mono ?_
  rw [HW2.out]
  rintro e w2 ⟨v2, rfl, hv, hb⟩
  replace HV1 := Lib.hid (GHold.later HV1.out hb)
  replace HX := Lib.hid ((hb.block _ (Array.getElem?_eq_some_iff.1 HX.out).1).trans HX.out)
  replace HB := Lib.hid (HB.out.trans (hb.mono HB.out.size))
  obtain ⟨A2, n2, c2, B2, m2, k2, rfl, ha, -⟩ := hv
  have hn : n2 = 0 := (ERow.len ha).symm
  subst hn
  clear ha hb HW2
  go_upto_region 3 with (refine wpList_store_new rfl 25 (.tmp 3) (.tmp 15) rfl 25 _ #[.int .i64 3, .slice A2 0 c2, .slice B2 m2 k2] rfl rfl gr_size rfl (by simp [Value.oneCell']) ?_)
  have hb := one_new w2 (.cells #[.int .i64 3, .slice A2 0 c2, .slice B2 m2 k2] 25)
  have HY : Hid ((w2.alloc (.cells #[.int .i64 3, .slice A2 0 c2, .slice B2 m2 k2] 25)).heap[w2.heap.size]? = some (.cells #[.int .i64 3, .slice A2 0 c2, .slice B2 m2 k2] 25 (0, 0))) := Lib.hid (heap_alloc_new _ _)
  replace HV1 := Lib.hid (GHold.later HV1.out hb)
  replace HX := Lib.hid ((hb.block _ (Array.getElem?_eq_some_iff.1 HX.out).1).trans HX.out)
  replace HB := Lib.hid (HB.out.trans (hb.mono HB.out.size))
  clear hb
  generalize w2.alloc (.cells #[.int .i64 3, .slice A2 0 c2, .slice B2 m2 k2] 25) = b2 at *
  generalize w2.heap.size = g2 at *
  try dsimp only [Act.put]
  go_wp2_with (refine wpList_load_row rfl 25 (.tmp 1) rfl g1 rfl 25 #[.int .i64 3, .slice A 1 c, .slice B m k] (0, 0) _ HX.out Try.underlying25 rfl gr_size ?_)
  refine (H.out gr1 _ 0 b2 HV1.out HGD.out).mono ?_
  rw [HO1.out]
  rintro e w3 ⟨A3, n3, c3, rfl, hr, hb⟩
  replace HV1 := Lib.hid (GHold.later HV1.out hb)
  replace HX := Lib.hid ((hb.block _ (Array.getElem?_eq_some_iff.1 HX.out).1).trans HX.out)
  replace HY := Lib.hid ((hb.block _ (Array.getElem?_eq_some_iff.1 HY.out).1).trans HY.out)
  replace HB := Lib.hid (HB.out.trans (hb.mono HB.out.size))
  have hn3 : n3 = 1 := hr.len.symm
  subst hn3
  have HR := Lib.hid hr
  clear hb hr HO1
  have hx1 : w3.cell? ⟨g1, 1, none⟩ = some (.slice A 1 c) := (cell_of_row _ _ 1 _ _ _ HX.out).trans rfl
  have hy1 : w3.cell? ⟨g2, 1, none⟩ = some (.slice A2 0 c2) := (cell_of_row _ _ 1 _ _ _ HY.out).trans rfl
  go_wp2_with (refine wpList_load_rowG rfl 25 (.tmp 1) rfl g1 rfl 25 #[.int .i64 3, .slice A 1 c, .slice B m k] (0, 0) _ HX.out Try.underlying25 rfl gr_size ?_)
  clear hx1 hy1
  refine (H.check gr1 _ w3 HV1.out (by decide) (by decide)).mono ?_
  rw [HC1.out]
  rintro e w4 ⟨rfl, hb⟩
  replace HV1 := Lib.hid (GHold.later HV1.out hb)
  replace HR := Lib.hid (HR.out.later hb)
  replace HX := Lib.hid ((hb.block _ (Array.getElem?_eq_some_iff.1 HX.out).1).trans HX.out)
  replace HB := Lib.hid (HB.out.trans (hb.mono HB.out.size))
  clear hb HC1 HY
  obtain ⟨b, off, hA, hc⟩ := IRow.cell HR.out 0 (by decide)
  subst hA
  have h01 : 0 < 1 := Nat.one_pos
  have hc2 : w4.cell? ⟨b, off, none⟩ = some (.int .i64 2) := hc
  clear hc
  go_wp2_with (refine wpList_load_rowG rfl 25 (.tmp 1) rfl g1 rfl 25 #[.int .i64 3, .slice A 1 c, .slice B m k] (0, 0) _ HX.out Try.underlying25 rfl gr_size ?_)
  try go_simp
  try go_wp2_with (refine wpList_load_rowG rfl 25 (.tmp 1) rfl g1 rfl 25 #[.int .i64 3, .slice A 1 c, .slice B m k] (0, 0) _ HX.out Try.underlying25 rfl gr_size ?_)
  try go_simp
  try go_wp2_with (refine wpList_load_rowG rfl 25 (.tmp 1) rfl g1 rfl 25 #[.int .i64 3, .slice A 1 c, .slice B m k] (0, 0) _ HX.out Try.underlying25 rfl gr_size ?_)
  try go_simp
  try go_wp2_with (refine wpList_load_rowG rfl 25 (.tmp 1) rfl g1 rfl 25 #[.int .i64 3, .slice A 1 c, .slice B m k] (0, 0) _ HX.out Try.underlying25 rfl gr_size ?_)
  try go_simp
  try go_wp2_with (refine wpList_load_rowG rfl 25 (.tmp 1) rfl g1 rfl 25 #[.int .i64 3, .slice A 1 c, .slice B m k] (0, 0) _ HX.out Try.underlying25 rfl gr_size ?_)
  clear hc2
  refine (H.in_ gr1 _ 2 w4 HV1.out HGD.out).mono ?_
  rw [HI1.out]
  rintro e w5 ⟨A5, n5, c5, rfl, hr, hb⟩
  have hn5 : n5 = 1 := hr.len.symm
  subst hn5
  replace HB := Lib.hid (HB.out.trans (hb.mono HB.out.size))
  clear hb hr HI1 HV1 HR HX
  go_wp2_with fail
  refine (H.check ⟨65, [], []⟩ _ w5 (GHold.bare w5 65) (by decide) (by decide)).mono ?_
  rw [HC65.out]
  rintro e w6 ⟨rfl, hb⟩
  replace HB := Lib.hid (HB.out.trans (hb.mono HB.out.size))
  clear hb
  go_wp2_with fail
  go_ret
  exact ⟨rfl, HB.out⟩
end Go.Proofs.Ytnmpbjgccbnomaa
/- The walk of the law GraphAt, over any program that gives what layer 11 asks. -/
namespace Go.Proofs.Ytnmpbjgccbnomaa
open Go.RowKit
theorem refsame_self (G : Gr) (v u : Value) (w : World) (h : GHold w G v) (h2 : GHold w G u) (he : G.es.length ≤ 100000) (hg : G.gn.length ≤ 100000) : Calls Try.prog 9 #[v, u] w (SaysL (.bool true) w) := by
  obtain ⟨A, n, c, B, m, k, rfl, ha, hb⟩ := h
  obtain ⟨A2, n2, c2, B2, m2, k2, rfl, ha2, hb2⟩ := h2
  have hn : n ≤ 100000 := by rw [← ERow.len ha]; exact he
  have hm : m ≤ 100000 := by rw [← hb.len]; exact hg
  have h := gsame_any G.sz A n c G.es B m k G.gn G.sz A2 n2 c2 G.es B2 m2 k2 G.gn w ha hb ha2 hb2 hn hm
  rwa [sameG_self] at h
end Go.Proofs.Ytnmpbjgccbnomaa
