import Derived.Test.YtdildmfjekdlgaaPackAP
import Derived.Test.YtdildmfjekdlgaaPackAN
import Derived.Test.YtdildmfjekdlgaaPackAQ
import Derived.Test.YtdildmfjekdlgaaPackAB
/- The walk of capacity's Of. -/
namespace Go.Proofs.Ytdildmfjekdlgaa
open Go.RowKit
set_option maxRecDepth 100000 in
set_option maxHeartbeats 4000000 in
theorem capOf_any (p : Pol) (v : Value) (d : Int) (w : World) (h : PHold w p v) : Calls Try.prog 11 #[v, .int .i64 d] w (SaysL (.int .i64 (capT p.tb d)) w) := by
  obtain ⟨A, n, c, B, m, k, rfl, h1, h2⟩ := h
  have HN := Lib.hid (one_new w (.cells #[.slice A n c, .slice B m k, .int .i64 p.lv] 24))
  have HX : Hid ((w.alloc (.cells #[.slice A n c, .slice B m k, .int .i64 p.lv] 24)).heap[w.heap.size]? = some (.cells #[.slice A n c, .slice B m k, .int .i64 p.lv] 24 (0, 0))) := Lib.hid (heap_alloc_new _ _)
  have H1 := Lib.hid h1; have H2 := Lib.hid h2
  have hlm := h2.len
  have HC : Hid (capT p.tb d = if d < 0 then 0 else if d < (m : Int) then p.tb.getD d.toNat 0 else 1) := Lib.hid (by unfold capT; rw [hlm])
  generalize capT p.tb d = CT at *
  clear h1 h2 hlm
  go_enter Try.func11, Try.ntmps11
  go_upto_region 1 with fail
  generalize w.alloc (.cells #[.slice A n c, .slice B m k, .int .i64 p.lv] 24) = y0 at *
  by_cases h0 : d < 0
  · have d0 : decide (d < 0) = true := decide_eq_true h0
    have HE : Hid (CT = 0) := Lib.hid (by rw [HC.out, if_pos h0])
    clear h0
    go_wp2_with fail
    go_ret
    exact ⟨by rw [HE.out]; rfl, HN.out⟩
  · have d0 : decide (d < 0) = false := decide_eq_false h0
    obtain ⟨j, rfl⟩ : ∃ j : Nat, d = (j : Int) := ⟨d.toNat, by omega⟩
    have hc1 : y0.cell? ⟨w.heap.size, 1, none⟩ = some (.slice B m k) := (cell_of_row _ _ 1 _ _ _ HX.out).trans rfl
    by_cases h1 : j < m
    · have d1 : decide ((j : Int) < (m : Int)) = true := decide_eq_true (by omega)
      have d1n : decide (j < m) = true := decide_eq_true h1
      have h1z : (j : Int) < (m : Int) := by omega
      obtain ⟨bo, oo, hA, hcell⟩ := IRow.cell (H2.out.later HN.out) j h1
      subst hA
      have HE : Hid (CT = p.tb.getD j 0) := Lib.hid (by rw [HC.out, if_neg h0, if_pos h1z, Int.toNat_natCast])
      generalize p.tb.getD j 0 = x at *
      clear h0
      go_wp2_with fail
      go_ret
      exact ⟨by rw [HE.out]; rfl, HN.out⟩
    · have d1 : decide ((j : Int) < (m : Int)) = false := decide_eq_false (by omega)
      have d1n : decide (j < m) = false := decide_eq_false h1
      have HE : Hid (CT = 1) := Lib.hid (by rw [HC.out, if_neg h0, if_neg (by omega)])
      clear h0 h1
      go_wp2_with fail
      go_ret
      exact ⟨by rw [HE.out]; rfl, HN.out⟩
end Go.Proofs.Ytdildmfjekdlgaa
/- What vouch looks for in Active, and that it comes to the same. Plain facts. -/
namespace Go.Proofs.Ytdildmfjekdlgaa
open Go.RowKit
end Go.Proofs.Ytdildmfjekdlgaa
/- The walk of vouch's compare, and its order. -/
namespace Go.Proofs.Ytdildmfjekdlgaa
open Go.RowKit
end Go.Proofs.Ytdildmfjekdlgaa
/- The walks of vouch's holds and of slices.Contains over numbers. -/
namespace Go.Proofs.Ytdildmfjekdlgaa
open Go.RowKit
set_option maxRecDepth 100000 in
set_option maxHeartbeats 4000000 in
theorem indexI_any (A : Option Addr) (n c : Nat) (l : List Int) (x : Int) (w : World) (hl : IRow w A n c l) (hn : n ≤ 100000) : Calls Try.prog 57 #[.slice A n c, .int .i64 x] w fun e w' => (∃ r : Int, e = .returned (.int .i64 r) ∧ decide (0 ≤ r) = hasI l x) ∧ Below w.heap.size w w' := by
  have HL := Lib.hid hl; have HLN : Hid (l.length = n) := Lib.hid hl.len
  clear hl
  go_enter Try.func57, Try.ntmps57
  go_wp2_with fail
  go_loopw [8] (fun i wr => ∃ j : Nat, j ≤ n ∧ i = .int .i64 j ∧ Hid (hasI (l.drop j) x = hasI l x ∧ Below w.heap.size w wr)) (fun i _ => n - (intOf i).toNat)
  case atStart => exact ⟨0, Nat.zero_le _, rfl, Lib.hid ⟨rfl, Below.refl _ _⟩⟩
  case round =>
    obtain ⟨j, hj, rfl, HQ⟩ := hrel
    by_cases hlt : j < n
    · have hlt2 : (j : Int) < (n : Int) := by omega
      obtain ⟨b, off, hA, hc⟩ := IRow.cell (HL.out.later HQ.out.2) j hlt
      subst hA
      have HD : Hid (hasI (l.drop j) x = if l.getD j 0 = x then true else hasI (l.drop (j + 1)) x) := Lib.hid (by
        rw [List.drop_eq_getElem_cons (by rw [HLN.out]; exact hlt), hasI, List.getD_eq_getElem?_getD, List.getElem?_eq_getElem (by rw [HLN.out]; exact hlt)]; rfl)
      generalize l.getD j 0 = a at *
      by_cases hax : x = a
      · have b0 : (x == a) = true := by rw [hax]; simp
        have HT : Hid (hasI l x = true) := Lib.hid (by rw [← HQ.out.1, HD.out, if_pos hax.symm])
        clear hax
        go_wp2_with fail
        go_ret
        exact ⟨⟨_, rfl, by rw [HT.out]; exact decide_eq_true (by omega)⟩, HQ.out.2⟩
      · have b0 : (x == a) = false := by rw [beq_eq_false_iff_ne]; exact hax
        have HT : Hid (hasI (l.drop (j + 1)) x = hasI l x) := Lib.hid (by rw [← HQ.out.1, HD.out, if_neg (fun q => hax q.symm)])
        clear hax
        go_wp2_with fail
        exact ⟨⟨j + 1, hlt, by go_num, Lib.hid ⟨HT.out, HQ.out.2⟩⟩, by simp [intOf]; omega⟩
    · have hlt2 : ¬ (j : Int) < (n : Int) := by omega
      have HT : Hid (hasI l x = false) := Lib.hid (by rw [← HQ.out.1, List.drop_eq_nil_of_le (by rw [HLN.out]; omega)]; rfl)
      go_wp2_with fail
      go_ret
      exact ⟨⟨_, rfl, by rw [HT.out]; decide⟩, HQ.out.2⟩
set_option maxRecDepth 100000 in
theorem containsI_any (A : Option Addr) (n c : Nat) (l : List Int) (x : Int) (w : World) (hl : IRow w A n c l) (hn : n ≤ 100000) : Calls Try.prog 38 #[.slice A n c, .int .i64 x] w (SaysL (.bool (hasI l x)) w) := by
  have HI := Lib.hid (indexI_any A n c l x w hl hn)
  clear hl
  go_enter Try.func38, Try.ntmps38
  go_wp2_with fail
  refine HI.out.mono ?_
  rintro e w1 ⟨⟨r, rfl, hr⟩, hb⟩
  have HR : Hid (decide (r ≥ 0) = hasI l x) := Lib.hid hr
  have HB := Lib.hid hb
  clear hr hb HI
  go_wp2_with fail
  go_ret
  exact ⟨by rw [← HR.out]; rfl, HB.out⟩
end Go.Proofs.Ytdildmfjekdlgaa
/- The walks of graph's isLevel, isKey, isEnd, joins. -/
namespace Go.Proofs.Ytdildmfjekdlgaa
open Go.RowKit
set_option maxRecDepth 100000 in
set_option maxHeartbeats 4000000 in
theorem levGr_any (x : Int) (w : World) : Calls Try.prog 51 #[.int .i64 x] w fun e w' => e = .returned (.bool (decide (1 ≤ x) && decide (x ≤ 3))) ∧ w' = w := by
  go_enter Try.func51, Try.ntmps51
  by_cases h1 : 1 ≤ x
  · have d1 : decide (1 ≤ x) = true := decide_eq_true h1
    rw [d1]
    clear h1
    by_cases h2 : x ≤ 3
    · have d2 : decide (x ≤ 3) = true := decide_eq_true h2
      rw [d2]
      clear h2
      go_wp2_with fail
      go_ret
      exact ⟨rfl, rfl⟩
    · have d2 : decide (x ≤ 3) = false := decide_eq_false h2
      rw [d2]
      clear h2
      go_wp2_with fail
      go_ret
      exact ⟨rfl, rfl⟩
  · have d1 : decide (1 ≤ x) = false := decide_eq_false h1
    rw [d1]
    clear h1
    go_wp2_with fail
    go_ret
    exact ⟨rfl, rfl⟩
set_option maxRecDepth 100000 in
set_option maxHeartbeats 4000000 in
theorem keyGr_any (G : Gr) (A : Option Addr) (n c : Nat) (B : Option Addr) (m k : Nat) (x : Int) (w : World) : Calls Try.prog 59 #[.agg #[.int .i64 G.sz, .slice A n c, .slice B m k], .int .i64 x] w (SaysL (.bool (keyB G.sz x)) w) := by
  have HN := Lib.hid (one_new w (.cells #[.int .i64 G.sz, .slice A n c, .slice B m k] 31))
  have HX : Hid ((w.alloc (.cells #[.int .i64 G.sz, .slice A n c, .slice B m k] 31)).heap[w.heap.size]? = some (.cells #[.int .i64 G.sz, .slice A n c, .slice B m k] 31 (0, 0))) := Lib.hid (heap_alloc_new _ _)
  have HV : Hid (keyB G.sz x = (decide (0 ≤ x) && decide (x < G.sz))) := Lib.hid rfl
  generalize keyB G.sz x = kb at *
  go_enter Try.func59, Try.ntmps59
  go_upto_region 1 with fail
  generalize w.alloc (.cells #[.int .i64 G.sz, .slice A n c, .slice B m k] 31) = y at *
  have hc0 : y.cell? ⟨w.heap.size, 0, none⟩ = some (.int .i64 G.sz) := (cell_of_row _ _ 0 _ _ _ HX.out).trans rfl
  by_cases h1 : 0 ≤ x
  · have d1 : decide (0 ≤ x) = true := decide_eq_true h1
    have D1 := Lib.hid d1
    clear h1
    by_cases h2 : x < G.sz
    · have d2 : decide (x < G.sz) = true := decide_eq_true h2
      have HE : Hid (kb = true) := Lib.hid (by rw [HV.out, d1, d2]; rfl)
      clear h2
      go_wp2_with fail
      go_ret
      exact ⟨by rw [HE.out]; rfl, HN.out⟩
    · have d2 : decide (x < G.sz) = false := decide_eq_false h2
      have HE : Hid (kb = false) := Lib.hid (by rw [HV.out, d1, d2]; rfl)
      clear h2
      go_wp2_with fail
      go_ret
      exact ⟨by rw [HE.out]; rfl, HN.out⟩
  · have d1 : decide (0 ≤ x) = false := decide_eq_false h1
    have HE : Hid (kb = false) := Lib.hid (by rw [HV.out, d1]; rfl)
    clear h1
    go_wp2_with fail
    go_ret
    exact ⟨by rw [HE.out]; rfl, HN.out⟩
def endB (G : Gr) (x : Int) : Bool := keyB G.sz x && !hasI G.gn x
set_option maxRecDepth 100000 in
set_option maxHeartbeats 4000000 in
theorem endGr_any (G : Gr) (A : Option Addr) (n c : Nat) (B : Option Addr) (m k : Nat) (x : Int) (w : World) (h2 : IRow w B m k G.gn) (hm : m ≤ 100000) : Calls Try.prog 60 #[.agg #[.int .i64 G.sz, .slice A n c, .slice B m k], .int .i64 x] w (SaysL (.bool (endB G x)) w) := by
  have HN := Lib.hid (one_new w (.cells #[.int .i64 G.sz, .slice A n c, .slice B m k] 31))
  have HX : Hid ((w.alloc (.cells #[.int .i64 G.sz, .slice A n c, .slice B m k] 31)).heap[w.heap.size]? = some (.cells #[.int .i64 G.sz, .slice A n c, .slice B m k] 31 (0, 0))) := Lib.hid (heap_alloc_new _ _)
  have H2 := Lib.hid (h2.later HN.out)
  have HV : Hid (endB G x = (keyB G.sz x && !hasI G.gn x)) := Lib.hid rfl
  generalize endB G x = kb at *
  clear h2
  go_enter Try.func60, Try.ntmps60
  go_upto_region 1 with fail
  generalize w.alloc (.cells #[.int .i64 G.sz, .slice A n c, .slice B m k] 31) = y at *
  have HK := Lib.hid (keyGr_any G A n c B m k x y)
  have HC : Hid (∀ z, Below y.heap.size y z → Calls Try.prog 38 #[.slice B m k, .int .i64 x] z (SaysL (.bool (hasI G.gn x)) z)) := Lib.hid fun z h => containsI_any B m k G.gn x z (H2.out.later h) hm
  generalize keyB G.sz x = kk at *
  generalize hasI G.gn x = hi at *
  go_wp2_with (refine wpList_load_row rfl 31 (.tmp 2) rfl w.heap.size rfl 31 #[.int .i64 G.sz, .slice A n c, .slice B m k] (0, 0) _ HX.out Try.underlying31 rfl gr_size ?_)
  refine HK.out.mono ?_
  rintro e w1 ⟨rfl, hb⟩
  have HX1 := Lib.hid ((hb.block _ (Array.getElem?_eq_some_iff.1 HX.out).1).trans HX.out)
  have HB := Lib.hid (HN.out.trans (hb.mono HN.out.size))
  have HC1 := Lib.hid (HC.out w1 hb)
  clear hb HK HX HC
  have hc2 : w1.cell? ⟨w.heap.size, 2, none⟩ = some (.slice B m k) := (cell_of_row _ _ 2 _ _ _ HX1.out).trans rfl
  cases kk
  · have HE : Hid (kb = false) := Lib.hid (by rw [HV.out]; rfl)
    go_wp2_with fail
    go_ret
    exact ⟨by rw [HE.out]; rfl, HB.out⟩
  · have HE : Hid (kb = !hi) := Lib.hid (by rw [HV.out]; rfl)
    go_wp2_with fail
    refine HC1.out.mono ?_
    rintro e w2 ⟨rfl, hb⟩
    have HB2 := Lib.hid (HB.out.trans (hb.mono HB.out.size))
    clear hb HC1 hc2
    go_wp2_with fail
    go_ret
    exact ⟨by rw [HE.out]; rfl, HB2.out⟩
theorem joinsGr_eq (G : Gr) (e : Edg) : (endsB G.sz e && freeB G.gn e) = (endB G e.fr && (endB G e.tu && (e.fr != e.tu))) := by
  unfold endsB freeB endB
  rw [show (!decide (e.fr = e.tu)) = (e.fr != e.tu) by by_cases h : e.fr = e.tu <;> simp [h]]
  cases keyB G.sz e.fr <;> cases keyB G.sz e.tu <;> cases hasI G.gn e.fr <;> cases hasI G.gn e.tu <;> cases (e.fr != e.tu) <;> rfl
set_option maxRecDepth 100000 in
set_option maxHeartbeats 4000000 in
theorem joinsGr_any (G : Gr) (A : Option Addr) (n c : Nat) (B : Option Addr) (m k : Nat) (e : Edg) (w : World) (h2 : IRow w B m k G.gn) (hm : m ≤ 100000) : Calls Try.prog 50 #[.agg #[.int .i64 G.sz, .slice A n c, .slice B m k], .agg e.arr] w (SaysL (.bool (endsB G.sz e && freeB G.gn e)) w) := by
  have HV : Hid ((endsB G.sz e && freeB G.gn e) = (endB G e.fr && (endB G e.tu && (e.fr != e.tu)))) := Lib.hid (joinsGr_eq G e)
  generalize (endsB G.sz e && freeB G.gn e) = kb at *
  have HN : Hid (Below w.heap.size w ((w.alloc (.cells #[.int .i64 G.sz, .slice A n c, .slice B m k] 31)).alloc (.cells e.arr 45))) := Lib.hid ((one_new w _).trans ((one_new _ _).mono (by simp)))
  have HX : Hid (((w.alloc (.cells #[.int .i64 G.sz, .slice A n c, .slice B m k] 31)).alloc (.cells e.arr 45)).heap[w.heap.size]? = some (.cells #[.int .i64 G.sz, .slice A n c, .slice B m k] 31 (0, 0))) := Lib.hid ((Below.heap_alloc _ _ _ (by simp)).trans (heap_alloc_new _ _))
  have HY : Hid (((w.alloc (.cells #[.int .i64 G.sz, .slice A n c, .slice B m k] 31)).alloc (.cells e.arr 45)).heap[w.heap.size + 1]? = some (.cells e.arr 45 (0, 0))) := Lib.hid (heap_alloc2_new _ _ _)
  have HC : Hid (∀ z x, Below w.heap.size w z → Calls Try.prog 60 #[.agg #[.int .i64 G.sz, .slice A n c, .slice B m k], .int .i64 x] z (SaysL (.bool (endB G x)) z)) := Lib.hid fun z x h => endGr_any G A n c B m k x z (h2.later h) hm
  clear h2
  go_enter Try.func50, Try.ntmps50
  go_upto_region 1 with fail
  generalize ((w.alloc (.cells #[.int .i64 G.sz, .slice A n c, .slice B m k] 31)).alloc (.cells e.arr 45)) = y at *
  have HC1 := Lib.hid (HC.out y e.fr HN.out)
  have HC2 : Hid (∀ z, Below y.heap.size y z → Calls Try.prog 60 #[.agg #[.int .i64 G.sz, .slice A n c, .slice B m k], .int .i64 e.tu] z (SaysL (.bool (endB G e.tu)) z)) := Lib.hid fun z h => HC.out z e.tu (HN.out.trans (h.mono HN.out.size))
  generalize endB G e.fr = k0 at *
  generalize endB G e.tu = k1 at *
  clear HC
  obtain ⟨hy0, hy1, -⟩ := edg_cells HY.out
  go_wp2_with (refine wpList_load_row rfl 31 (.tmp 2) rfl w.heap.size rfl 31 #[.int .i64 G.sz, .slice A n c, .slice B m k] (0, 0) _ HX.out Try.underlying31 rfl gr_size ?_)
  refine HC1.out.mono ?_
  rintro e1 w1 ⟨rfl, hb⟩
  have HX1 := Lib.hid ((hb.block _ (Array.getElem?_eq_some_iff.1 HX.out).1).trans HX.out)
  have HY1 := Lib.hid ((hb.block _ (Array.getElem?_eq_some_iff.1 HY.out).1).trans HY.out)
  have HB := Lib.hid (HN.out.trans (hb.mono HN.out.size))
  have HC3 := Lib.hid (HC2.out w1 hb)
  clear hb HC1 HX HC2 HY hy0 hy1
  cases k0
  · have HE : Hid (kb = false) := Lib.hid (by rw [HV.out]; rfl)
    go_wp2_with fail
    go_ret
    exact ⟨by rw [HE.out]; rfl, HB.out⟩
  · obtain ⟨hy0, hy1, -⟩ := edg_cells HY1.out
    go_wp2_with (refine wpList_load_rowG rfl 31 (.tmp 2) rfl w.heap.size rfl 31 #[.int .i64 G.sz, .slice A n c, .slice B m k] (0, 0) _ HX1.out Try.underlying31 rfl gr_size ?_)
    refine HC3.out.mono ?_
    rintro e1 w2 ⟨rfl, hb⟩
    have HY2 := Lib.hid ((hb.block _ (Array.getElem?_eq_some_iff.1 HY1.out).1).trans HY1.out)
    have HB2 := Lib.hid (HB.out.trans (hb.mono HB.out.size))
    clear hb HC3 HX1 HY1 hy0 hy1
    cases k1
    · have HE : Hid (kb = false) := Lib.hid (by rw [HV.out]; rfl)
      go_wp2_with fail
      go_ret
      exact ⟨by rw [HE.out]; rfl, HB2.out⟩
    · have HE : Hid (kb = (e.fr != e.tu)) := Lib.hid (by rw [HV.out]; rfl)
      obtain ⟨hy0, hy1, -⟩ := edg_cells HY2.out
      generalize e.fr = x0 at *
      generalize e.tu = x1 at *
      go_wp2_with fail
      go_ret
      exact ⟨by rw [HE.out]; rfl, HB2.out⟩
end Go.Proofs.Ytdildmfjekdlgaa
/- The walk of graph's areKeys. -/
namespace Go.Proofs.Ytdildmfjekdlgaa
open Go.RowKit
set_option maxRecDepth 100000 in
set_option maxHeartbeats 4000000 in
theorem keysGr_any (G : Gr) (A : Option Addr) (n c : Nat) (B : Option Addr) (m k : Nat) (A2 : Option Addr) (n2 c2 : Nat) (l : List Int) (w : World) (hl : IRow w A2 n2 c2 l) (hn : n2 ≤ 100000) : Calls Try.prog 49 #[.agg #[.int .i64 G.sz, .slice A n c, .slice B m k], .slice A2 n2 c2] w (SaysL (.bool (setB l G.sz)) w) := by
  have HN := Lib.hid (one_new w (.cells #[.int .i64 G.sz, .slice A n c, .slice B m k] 31))
  have HX : Hid ((w.alloc (.cells #[.int .i64 G.sz, .slice A n c, .slice B m k] 31)).heap[w.heap.size]? = some (.cells #[.int .i64 G.sz, .slice A n c, .slice B m k] 31 (0, 0))) := Lib.hid (heap_alloc_new _ _)
  have HL := Lib.hid (hl.later HN.out); have HLN : Hid (l.length = n2) := Lib.hid hl.len
  have HBAD : Hid (∀ i, i < n2 → okSet l G.sz i = false → setB l G.sz = false) := Lib.hid fun i hi h => setB_no (by rw [HLN.out]; exact hi) h
  have HGOOD : Hid ((∀ i, i < n2 → okSet l G.sz i = true) → setB l G.sz = true) := Lib.hid fun h => setB_yes fun i hi => h i (by rw [← HLN.out]; exact hi)
  have HOK : Hid (∀ i, okSet l G.sz i = (keyB G.sz (l.getD i 0) && (decide (i = 0) || decide (l.getD (i - 1) 0 < l.getD i 0)))) := Lib.hid fun i => by
    unfold okSet keyB
    rw [Bool.and_assoc]
  generalize setB l G.sz = sb at *
  clear hl
  go_enter Try.func49, Try.ntmps49
  go_upto_region 1 with fail
  generalize w.alloc (.cells #[.int .i64 G.sz, .slice A n c, .slice B m k] 31) = y at *
  have HKY : Hid (∀ z x, Calls Try.prog 59 #[.agg #[.int .i64 G.sz, .slice A n c, .slice B m k], .int .i64 x] z (SaysL (.bool (keyB G.sz x)) z)) := Lib.hid fun z x => keyGr_any G A n c B m k x z
  go_wp2_with fail
  go_loopw [9] (fun i wr => ∃ j : Nat, j ≤ n2 ∧ i = .int .i64 j ∧ Hid ((∀ q, q < j → okSet l G.sz q = true) ∧ Below y.heap.size y wr)) (fun i _ => n2 - (intOf i).toNat)
  case atStart => exact ⟨0, Nat.zero_le _, rfl, Lib.hid ⟨fun q h => absurd h (Nat.not_lt_zero _), Below.refl _ _⟩⟩
  case round =>
    obtain ⟨j, hj, rfl, HQ⟩ := hrel
    have HX1 : Hid (wr.heap[w.heap.size]? = some (.cells #[.int .i64 G.sz, .slice A n c, .slice B m k] 31 (0, 0))) := Lib.hid ((HQ.out.2.block _ (Array.getElem?_eq_some_iff.1 HX.out).1).trans HX.out)
    by_cases hlt : j < n2
    · have hlt2 : (j : Int) < (n2 : Int) := by omega
      have HLR := Lib.hid (HL.out.later HQ.out.2)
      obtain ⟨b, off, hA, hc⟩ := IRow.cell HLR.out j hlt
      subst hA
      have HOJ := Lib.hid (HOK.out j)
      have HKJ := Lib.hid (HKY.out wr (l.getD j 0))
      generalize hlj : l.getD j 0 = a at *
      clear hlj
      go_upto_region 4 with fail
      clear hc
      go_wp2_with (refine wpList_load_row rfl 31 (.tmp 2) rfl w.heap.size rfl 31 #[.int .i64 G.sz, .slice A n c, .slice B m k] (0, 0) _ HX1.out Try.underlying31 rfl gr_size ?_)
      refine HKJ.out.mono ?_
      rintro e w1 ⟨rfl, hb⟩
      have HB1 := Lib.hid (HQ.out.2.trans (hb.mono HQ.out.2.size))
      have HK := Lib.hid HQ.out.1
      clear hb HKJ HQ HX1 HLR
      cases hkb : keyB G.sz a
      · have HE : Hid (sb = false) := Lib.hid (HBAD.out j hlt (by rw [HOJ.out, hkb]; rfl))
        clear hkb
        go_wp2_with fail
        go_ret
        exact ⟨by rw [HE.out]; rfl, HN.out.trans (HB1.out.mono HN.out.size)⟩
      · rw [hkb, Bool.true_and] at HOJ
        clear hkb
        by_cases hj0 : 0 < j
        · have e0 : decide ((j : Int) > 0) = true := decide_eq_true (by omega)
          have e0' : decide ((0 : Int) < (j : Int)) = true := e0
          have e1 : (0 : Int) ≤ (j : Int) - 1 := by omega
          have e2 : (j : Int) - 1 < (n2 : Int) := by omega
          have e3 : ((j : Int) - 1).toNat = j - 1 := by omega
          obtain ⟨b2, off2, hA2, hc⟩ := IRow.cell (HL.out.later HB1.out) (j - 1) (by omega)
          injection hA2 with hA2
          injection hA2 with i1 i2
          subst i1 i2
          rw [decide_eq_false (by omega : ¬ j = 0), Bool.false_or] at HOJ
          generalize l.getD (j - 1) 0 = a1 at *
          by_cases hlt3 : a1 < a
          · have d1 : decide (a1 ≥ a) = false := decide_eq_false (by omega)
            have d1' : decide (a ≤ a1) = false := d1
            have HT : Hid (okSet l G.sz j = true) := Lib.hid (by rw [HOJ.out]; exact decide_eq_true hlt3)
            clear hlt3
            go_wp2_with fail
            exact ⟨⟨j + 1, hlt, by go_num, Lib.hid ⟨fun q hq => (Nat.lt_or_ge q j).elim (fun h => HK.out q h) (fun h => by rw [show q = j by omega]; exact HT.out), HB1.out⟩⟩, by simp [intOf]; omega⟩
          · have d1 : decide (a1 ≥ a) = true := decide_eq_true (by omega)
            have d1' : decide (a ≤ a1) = true := d1
            have HE : Hid (sb = false) := Lib.hid (HBAD.out j hlt (by rw [HOJ.out]; exact decide_eq_false hlt3))
            clear hlt3
            go_wp2_with fail
            go_ret
            exact ⟨by rw [HE.out]; rfl, HN.out.trans (HB1.out.mono HN.out.size)⟩
        · have e0 : decide ((j : Int) > 0) = false := decide_eq_false (by omega)
          have e0' : decide ((0 : Int) < (j : Int)) = false := e0
          have HT : Hid (okSet l G.sz j = true) := Lib.hid (by rw [HOJ.out, decide_eq_true (by omega : j = 0)]; rfl)
          go_wp2_with fail
          exact ⟨⟨j + 1, hlt, by go_num, Lib.hid ⟨fun q hq => (Nat.lt_or_ge q j).elim (fun h => HK.out q h) (fun h => by rw [show q = j by omega]; exact HT.out), HB1.out⟩⟩, by simp [intOf]; omega⟩
    · have hlt2 : ¬ (j : Int) < (n2 : Int) := by omega
      have HE : Hid (sb = true) := Lib.hid (HGOOD.out fun q hq => HQ.out.1 q (by omega))
      have HB1 := Lib.hid HQ.out.2
      go_wp2_with fail
      go_ret
      exact ⟨by rw [HE.out]; rfl, HN.out.trans (HB1.out.mono HN.out.size)⟩
end Go.Proofs.Ytdildmfjekdlgaa
/- The walk of graph's Check. -/
namespace Go.Proofs.Ytdildmfjekdlgaa
open Go.RowKit
set_option maxRecDepth 100000 in
set_option maxHeartbeats 4000000 in
theorem checkGr_any (G : Gr) (v : Value) (w : World) (h : GHold w G v) (he : G.es.length ≤ 100000) (hg : G.gn.length ≤ 100000) : Calls Try.prog 34 #[v] w (SaysL (.int .i64 (checkG G)) w) := by
  obtain ⟨A, n, c, B, m, k, rfl, h1, h2⟩ := h
  have hn : n ≤ 100000 := by rw [← ERow.len h1]; exact he
  have hm : m ≤ 100000 := by rw [← h2.len]; exact hg
  have HL1 : Hid (G.es.length = n) := Lib.hid (ERow.len h1)
  have HN := Lib.hid (one_new w (.cells #[.int .i64 G.sz, .slice A n c, .slice B m k] 31))
  have HX : Hid ((w.alloc (.cells #[.int .i64 G.sz, .slice A n c, .slice B m k] 31)).heap[w.heap.size]? = some (.cells #[.int .i64 G.sz, .slice A n c, .slice B m k] 31 (0, 0))) := Lib.hid (heap_alloc_new _ _)
  have H1 := Lib.hid h1; have H2 := Lib.hid h2
  have HBAD : Hid (okG G = false → checkG G = 14) := Lib.hid fun h => by unfold checkG; rw [h]; rfl
  have HGOOD : Hid (okG G = true → checkG G = 0) := Lib.hid fun h => by unfold checkG; rw [h]; rfl
  have HHD : Hid (headB G = (decide (0 ≤ G.sz) && (decide (G.sz ≤ 64) && (decide (G.es.length ≤ 500) && setB G.gn G.sz)))) := Lib.hid rfl
  have HOKE : Hid (∀ i, okE G i = ((endsB G.sz (G.es.getD i noEdg) && freeB G.gn (G.es.getD i noEdg)) && (levB (G.es.getD i noEdg) && nextB G.es i))) := Lib.hid fun i => by
    unfold okE
    cases endsB G.sz (G.es.getD i noEdg) <;> cases levB (G.es.getD i noEdg) <;> cases nextB G.es i <;> cases freeB G.gn (G.es.getD i noEdg) <;> rfl
  have HNO : Hid (∀ i, i < n → okE G i = false → okG G = false) := Lib.hid fun i hi h => okG_no (by rw [HL1.out]; exact hi) h
  have HYES : Hid (headB G = true → (∀ i, i < n → okE G i = true) → okG G = true) := Lib.hid fun h0 h => okG_yes h0 fun i hi => h i (by rw [← HL1.out]; exact hi)
  generalize checkG G = CG at *
  clear h1 h2 he hg
  go_enter Try.func34, Try.ntmps34
  go_upto_region 1 with fail
  generalize (w.alloc (.cells #[.int .i64 G.sz, .slice A n c, .slice B m k] 31)) = y0 at *
  have HXL : Hid (w.heap.size < y0.heap.size) := Lib.hid (Array.getElem?_eq_some_iff.1 HX.out).1
  have hc0 : y0.cell? ⟨w.heap.size, 0, none⟩ = some (.int .i64 G.sz) := (cell_of_row _ _ 0 _ _ _ HX.out).trans rfl
  have hc1 : y0.cell? ⟨w.heap.size, 1, none⟩ = some (.slice A n c) := (cell_of_row _ _ 1 _ _ _ HX.out).trans rfl
  have hc2 : y0.cell? ⟨w.heap.size, 2, none⟩ = some (.slice B m k) := (cell_of_row _ _ 2 _ _ _ HX.out).trans rfl
  by_cases c0 : G.sz < 0
  · have d0 : decide (G.sz < 0) = true := decide_eq_true c0
    have HE : Hid (CG = 14) := Lib.hid (HBAD.out (okG_head (by rw [HHD.out, decide_eq_false (by omega), Bool.false_and])))
    clear c0
    go_wp2_with fail
    go_ret
    exact ⟨by rw [HE.out]; rfl, HN.out⟩
  · have d0 : decide (G.sz < 0) = false := decide_eq_false c0
    have C0 := Lib.hid c0; clear c0
    by_cases c1 : G.sz > 64
    · have d1 : decide (G.sz > 64) = true := decide_eq_true c1
      have d1' : decide (64 < G.sz) = true := d1
      have HE : Hid (CG = 14) := Lib.hid (HBAD.out (okG_head (by rw [HHD.out, decide_eq_false (by omega : ¬ G.sz ≤ 64), Bool.false_and, Bool.and_false])))
      clear c1
      go_wp2_with fail
      go_ret
      exact ⟨by rw [HE.out]; rfl, HN.out⟩
    · have d1 : decide (G.sz > 64) = false := decide_eq_false c1
      have d1' : decide (64 < G.sz) = false := d1
      have C1 := Lib.hid c1; clear c1
      by_cases c2 : n > 500
      · have d2 : decide ((n : Int) > 500) = true := decide_eq_true (by omega)
        have d2' : decide ((500 : Int) < (n : Int)) = true := d2
        have HE : Hid (CG = 14) := Lib.hid (HBAD.out (okG_head (by rw [HHD.out, decide_eq_false (by rw [HL1.out]; omega : ¬ G.es.length ≤ 500), Bool.false_and, Bool.and_false, Bool.and_false])))
        clear c2
        go_wp2_with fail
        go_ret
        exact ⟨by rw [HE.out]; rfl, HN.out⟩
      · have d2 : decide ((n : Int) > 500) = false := decide_eq_false (by omega)
        have d2' : decide ((500 : Int) < (n : Int)) = false := d2
        have C2 := Lib.hid c2; clear c2
        have HSET := Lib.hid (keysGr_any G A n c B m k B m k G.gn y0 (H2.out.later HN.out) hm)
        go_wp2_with (refine wpList_load_rowG rfl 31 (.tmp 1) rfl w.heap.size rfl 31 #[.int .i64 G.sz, .slice A n c, .slice B m k] (0, 0) _ HX.out Try.underlying31 rfl gr_size ?_)
        refine HSET.out.mono ?_
        rintro e w1 ⟨rfl, hb⟩
        have HW1 := Lib.hid (HN.out.trans (hb.mono HN.out.size))
        have HX1 : Hid (w1.heap[w.heap.size]? = some (.cells #[.int .i64 G.sz, .slice A n c, .slice B m k] 31 (0, 0))) := Lib.hid ((hb.block _ HXL.out).trans HX.out)
        clear hb HSET hc0 hc1 hc2 d0 d1 d1' d2 d2'
        by_cases c3 : setB G.gn G.sz = true
        · rw [c3]
          have HH : Hid (headB G = true) := Lib.hid (by rw [HHD.out, decide_eq_true (by have := C0.out; omega : 0 ≤ G.sz), decide_eq_true (by have := C1.out; omega : G.sz ≤ 64), decide_eq_true (by have := C2.out; rw [HL1.out]; omega : G.es.length ≤ 500), c3]; rfl)
          clear c3 C0 C1 C2 HHD HX HXL HN
          generalize y0 = y00 at *
          have HXL : Hid (w.heap.size < w1.heap.size) := Lib.hid (Array.getElem?_eq_some_iff.1 HX1.out).1
          have hg1 : w1.cell? ⟨w.heap.size, 1, none⟩ = some (.slice A n c) := (cell_of_row _ _ 1 _ _ _ HX1.out).trans rfl
          go_upto_region 4 with fail
          clear hg1
          go_loopw [29] (fun i wr => ∃ j : Nat, j ≤ n ∧ i = .int .i64 j ∧ Hid ((∀ q, q < j → okE G q = true) ∧ Below w1.heap.size w1 wr)) (fun i _ => n - (intOf i).toNat)
          case atStart => exact ⟨0, Nat.zero_le _, rfl, Lib.hid ⟨fun q h => absurd h (Nat.not_lt_zero _), Below.refl _ _⟩⟩
          case round =>
            obtain ⟨j, hj, rfl, HQ⟩ := hrel
            have HXR : Hid (wr.heap[w.heap.size]? = some (.cells #[.int .i64 G.sz, .slice A n c, .slice B m k] 31 (0, 0))) := Lib.hid ((HQ.out.2.block _ HXL.out).trans HX1.out)
            have HBR : Hid (Below w.heap.size w wr) := Lib.hid (HW1.out.trans (HQ.out.2.mono HW1.out.size))
            have HK := Lib.hid HQ.out.1; have HB := Lib.hid HQ.out.2
            clear HQ
            by_cases hlt : j < n
            · have hlt2 : (j : Int) < (n : Int) := by omega
              obtain ⟨b, off, hA, hc⟩ := GRow.cells Edg.len (by decide) (GRow.later H1.out HBR.out) noEdg j hlt
              subst hA
              obtain ⟨p, hp⟩ : ∃ p, G.es.getD j noEdg = p := ⟨_, rfl⟩
              rw [hp] at hc
              have HP := Lib.hid hp
              have HC : Hid (∀ q, q < p.arr.size → wr.cell? ⟨b, off + j * 3 + q, none⟩ = p.arr[q]?) := Lib.hid fun q hq => (hc q hq).trans (by rw [← Edg.list, Array.getElem?_toList])
              clear hc hp
              have HOJ : Hid (okE G j = ((endsB G.sz p && freeB G.gn p) && (levB p && nextB G.es j))) := Lib.hid (by rw [HOKE.out, HP.out])
              go_upto_region 6 with (first | (refine wpList_load_cells rfl 45 (.tmp 32) rfl b (off + j * 3) rfl p.arr _ Try.underlying45 rfl p.info HC.out ?_) | (refine wpList_store_new rfl 45 (.tmp 4) (.tmp 33) rfl 45 _ p.arr rfl rfl p.info rfl p.one ?_))
              have HN3 := Lib.hid (one_new wr (.cells p.arr 45))
              have HY : Hid ((wr.alloc (.cells p.arr 45)).heap[wr.heap.size]? = some (.cells p.arr 45 (0, 0))) := Lib.hid (heap_alloc_new _ _)
              replace HXR := Lib.hid ((HN3.out.block _ (Array.getElem?_eq_some_iff.1 HXR.out).1).trans HXR.out)
              replace HB := Lib.hid (HB.out.trans (HN3.out.mono HB.out.size))
              replace HBR := Lib.hid (HBR.out.trans (HN3.out.mono HBR.out.size))
              clear HN3 HC
              generalize wr.alloc (.cells p.arr 45) = x2 at *
              generalize wr.heap.size = g4 at *
              refine wp_region_grow (by kernel_rfl) Later Later.refl (fun _ _ _ => Later.trans) [22, 23, 24] [([0, 1], 2), ([3, 4, 5, 6], 7), ([8, 9, 10, 11, 12, 13, 14, 15, 16, 17, 18, 19, 20], 21)] (by kernel_rfl) (by kernel_rfl) (by kernel_rfl) ?_
              simp only [List.map_cons, List.map_nil, pick, List.getD_cons_zero, List.getD_cons_succ]
              have HB9 : Hid (Below w1.heap.size w1 x2.drew) := Lib.hid HB.out.drew
              have HBR9 : Hid (Below w.heap.size w x2.drew) := Lib.hid HBR.out.drew
              have HX9 : Hid (x2.drew.heap[w.heap.size]? = some (.cells #[.int .i64 G.sz, .slice (some ⟨b, off, none⟩) n c, .slice B m k] 31 (0, 0))) := Lib.hid HXR.out
              have HY9 : Hid (x2.drew.heap[g4]? = some (.cells p.arr 45 (0, 0))) := Lib.hid HY.out
              clear HB HBR HXR HY
              generalize x2.drew = z0 at *
              have HJN := Lib.hid (joinsGr_any G (some ⟨b, off, none⟩) n c B m k p z0 (H2.out.later HBR9.out) hm)
              have hl1 : ∀ x, (loadVar 31 ⟨w.heap.size, 0, none⟩).run Try.prog (fut Later z0 x) = .ok (.agg #[.int .i64 G.sz, .slice (some ⟨b, off, none⟩) n c, .slice B m k]) (fut Later z0 x) := fun x => run_loadVar_row _ w.heap.size 31 31 #[.int .i64 G.sz, .slice (some ⟨b, off, none⟩) n c, .slice B m k] (0, 0) _ (((fut_ok Later.refl z0 x).block _ (Array.getElem?_eq_some_iff.1 HX9.out).1).trans HX9.out) Try.underlying31 rfl gr_size
              have hl2 : ∀ x, (loadVar 45 ⟨g4, 0, none⟩).run Try.prog (fut Later z0 x) = .ok (.agg p.arr) (fut Later z0 x) := fun x => run_loadVar_row _ g4 45 45 p.arr (0, 0) _ (((fut_ok Later.refl z0 x).block _ (Array.getElem?_eq_some_iff.1 HY9.out).1).trans HY9.out) Try.underlying45 rfl p.info
              refine wpGrow_cons ?_
              repeat (first | (refine wpQuiet_load rfl 31 (.tmp 1) rfl ⟨w.heap.size, 0, none⟩ rfl (.agg #[.int .i64 G.sz, .slice (some ⟨b, off, none⟩) n c, .slice B m k]) (fun w' h => by obtain ⟨x, rfl⟩ := h; exact hl1 x) ?_; simp only [Act.put, List.setIfInBounds_toArray, List.set_cons_succ, List.set_cons_zero]) | (refine wpQuiet_load rfl 45 (.tmp 4) rfl ⟨g4, 0, none⟩ rfl (.agg p.arr) (fun w' h => by obtain ⟨x, rfl⟩ := h; exact hl2 x) ?_; simp only [Act.put, List.setIfInBounds_toArray, List.set_cons_succ, List.set_cons_zero]) | go_big_quiet_step (fail))
              refine wpQuiet_nil ?_
              clear hl1 hl2
              go_wp2_with fail
              refine HJN.out.mono ?_
              rintro e z5 ⟨rfl, hb⟩
              have HF : Hid (Later z0 z5) := Lib.hid hb
              replace HX9 := Lib.hid ((hb.block _ (Array.getElem?_eq_some_iff.1 HX9.out).1).trans HX9.out); replace HY9 := Lib.hid ((hb.block _ (Array.getElem?_eq_some_iff.1 HY9.out).1).trans HY9.out)
              replace HB9 := Lib.hid (HB9.out.trans (hb.mono HB9.out.size)); replace HBR9 := Lib.hid (HBR9.out.trans (hb.mono HBR9.out.size))
              clear hb
              go_wp2_with fail
              refine pieceEnd_normal ⟨HF.out, ?_⟩
              clear HF HJN
              cases hjn : (endsB G.sz p && freeB G.gn p)
              · have HE : Hid (CG = 14) := Lib.hid (HBAD.out (HNO.out j hlt (by rw [HOJ.out, hjn]; rfl)))
                clear hjn
                refine wpGrow_cons ?_
                repeat (go_big_quiet_step (fail))
                refine wpQuiet_nil ?_
                go_wp2_with fail
                refine pieceEnd_normal ⟨Later.refl _, ?_⟩
                refine wpGrow_cons ?_
                repeat (go_big_quiet_step (fail))
                refine wpQuiet_nil ?_
                go_wp2_with fail
                refine pieceEnd_normal ⟨Later.refl _, ?_⟩
                refine wpGrow_nil ?_
                repeat (go_big_quiet_step (fail))
                refine wpQuiet_nil ?_
                go_wp2_with fail
                go_ret
                exact ⟨by rw [HE.out]; rfl, HBR9.out⟩
              · rw [hjn, Bool.true_and] at HOJ
                clear hjn
                have hf2 : ∀ x, (fut Later z5 x).cell? ⟨g4, 2, none⟩ = some (.int .i64 p.lv) := fun x => (cell_of_row _ _ 2 _ _ _ (((fut_ok Later.refl z5 x).block _ (Array.getElem?_eq_some_iff.1 HY9.out).1).trans HY9.out)).trans rfl
                have HLB : Hid (levB p = (decide (1 ≤ p.lv) && decide (p.lv ≤ 3))) := Lib.hid rfl
                refine wpGrow_cons ?_
                repeat (go_big_quiet_step (fail))
                refine wpQuiet_nil ?_
                clear hf2
                go_wp2_with fail
                refine (levGr_any p.lv z5).mono ?_
                rintro e z6 ⟨rfl, rfl⟩
                rw [← HLB.out]
                clear HLB
                go_wp2_with fail
                refine pieceEnd_normal ⟨Later.refl _, ?_⟩
                cases hlv : levB p
                · have HE : Hid (CG = 14) := Lib.hid (HBAD.out (HNO.out j hlt (by rw [HOJ.out, hlv]; rfl)))
                  clear hlv
                  refine wpGrow_cons ?_
                  repeat (go_big_quiet_step (fail))
                  refine wpQuiet_nil ?_
                  go_wp2_with fail
                  refine pieceEnd_normal ⟨Later.refl _, ?_⟩
                  refine wpGrow_nil ?_
                  repeat (go_big_quiet_step (fail))
                  refine wpQuiet_nil ?_
                  go_wp2_with fail
                  go_ret
                  exact ⟨by rw [HE.out]; rfl, HBR9.out⟩
                · rw [hlv, Bool.true_and] at HOJ
                  clear hlv
                  by_cases hj0 : 0 < j
                  · have e0 : decide ((j : Int) > 0) = true := decide_eq_true (by omega)
                    have e0' : decide ((0 : Int) < (j : Int)) = true := e0
                    have e1 : (0 : Int) ≤ (j : Int) - 1 := by omega
                    have e2 : (j : Int) - 1 < (n : Int) := by omega
                    have e3 : ((j : Int) - 1).toNat = j - 1 := by omega
                    obtain ⟨q, hq⟩ : ∃ q, G.es.getD (j - 1) noEdg = q := ⟨_, rfl⟩
                    have HNX0 : Hid (nextB G.es j = befE q p) := Lib.hid (by unfold nextB; rw [decide_eq_false (by omega), Bool.false_or, HP.out, hq])
                    obtain ⟨b2, off2, hA2, hfq⟩ := GRow.futs (F := Later) Later.refl Edg.len (by decide) (fun _ h => h) (GRow.later H1.out HBR9.out) noEdg (j - 1) (by omega)
                    injection hA2 with hA2
                    injection hA2 with i1 i2
                    subst i1 i2
                    rw [hq] at hfq
                    have hl1 : ∀ x, (loadVar 45 ⟨b, off + (j - 1) * 3, none⟩).run Try.prog (fut Later z6 x) = .ok (.agg q.arr) (fut Later z6 x) := fun x => run_loadVar_cells _ b (off + (j - 1) * 3) 45 q.arr _ Try.underlying45 rfl q.info fun i hi => (hfq x i hi).trans (by rw [← Edg.list, Array.getElem?_toList])
                    have hl2 : ∀ x, (loadVar 45 ⟨g4, 0, none⟩).run Try.prog (fut Later z6 x) = .ok (.agg p.arr) (fut Later z6 x) := fun x => run_loadVar_row _ g4 45 45 p.arr (0, 0) _ (((fut_ok Later.refl z6 x).block _ (Array.getElem?_eq_some_iff.1 HY9.out).1).trans HY9.out) Try.underlying45 rfl p.info
                    have hf1 : ∀ x, (fut Later z6 x).cell? ⟨w.heap.size, 1, none⟩ = some (.slice (some ⟨b, off, none⟩) n c) := fun x => (cell_of_row _ _ 1 _ _ _ (((fut_ok Later.refl z6 x).block _ (Array.getElem?_eq_some_iff.1 HX9.out).1).trans HX9.out)).trans rfl
                    clear hfq hq
                    refine wpGrow_cons ?_
                    repeat (first | (refine wpQuiet_load rfl 45 (.tmp 52) rfl ⟨b, off + (j - 1) * 3, none⟩ rfl (.agg q.arr) (fun w' h => by obtain ⟨x, rfl⟩ := h; exact hl1 x) ?_; simp only [Act.put, List.setIfInBounds_toArray, List.set_cons_succ, List.set_cons_zero]) | (refine wpQuiet_load rfl 45 (.tmp 4) rfl ⟨g4, 0, none⟩ rfl (.agg p.arr) (fun w' h => by obtain ⟨x, rfl⟩ := h; exact hl2 x) ?_; simp only [Act.put, List.setIfInBounds_toArray, List.set_cons_succ, List.set_cons_zero]) | go_big_quiet_step (fail))
                    refine wpQuiet_nil ?_
                    clear hl1 hl2 hf1 e0 e0' e1 e2 e3
                    go_wp2_with fail
                    refine (compareEd_any q p z6).mono ?_
                    rintro e z7 ⟨rfl, hb⟩
                    replace hb := hb.1
                    have HF : Hid (Later z6 z7) := Lib.hid hb
                    replace HX9 := Lib.hid ((hb.block _ (Array.getElem?_eq_some_iff.1 HX9.out).1).trans HX9.out); replace HY9 := Lib.hid ((hb.block _ (Array.getElem?_eq_some_iff.1 HY9.out).1).trans HY9.out)
                    replace HB9 := Lib.hid (HB9.out.trans (hb.mono HB9.out.size)); replace HBR9 := Lib.hid (HBR9.out.trans (hb.mono HBR9.out.size))
                    clear hb
                    go_wp2_with fail
                    refine pieceEnd_normal ⟨HF.out, ?_⟩
                    clear HF
                    have HCI : Hid (cmpEd q p < 0 ↔ befE q p = true) := Lib.hid (cmpEd_iff q p)
                    generalize cmpEd q p = r at *
                    by_cases hr : r < 0
                    · have d1 : decide (r ≥ 0) = false := decide_eq_false (by omega)
                      have d1' : decide (0 ≤ r) = false := d1
                      have HT : Hid (okE G j = true) := Lib.hid (by rw [HOJ.out, HNX0.out, HCI.out.1 hr])
                      clear hr
                      refine wpGrow_nil ?_
                      repeat (go_big_quiet_step (fail))
                      refine wpQuiet_nil ?_
                      go_wp2_with fail
                      exact ⟨⟨j + 1, by omega, by go_num, Lib.hid ⟨fun q hq => (Nat.lt_or_ge q j).elim (fun h => HK.out q h) (fun h => by rw [show q = j by omega]; exact HT.out), HB9.out⟩⟩, by simp [intOf]; omega⟩
                    · have d1 : decide (r ≥ 0) = true := decide_eq_true (by omega)
                      have d1' : decide (0 ≤ r) = true := d1
                      have HE : Hid (CG = 14) := Lib.hid (HBAD.out (HNO.out j hlt (by rw [HOJ.out, HNX0.out]; exact Bool.eq_false_iff.2 fun q => hr (HCI.out.2 q))))
                      clear hr
                      refine wpGrow_nil ?_
                      repeat (go_big_quiet_step (fail))
                      refine wpQuiet_nil ?_
                      go_wp2_with fail
                      go_ret
                      exact ⟨by rw [HE.out]; rfl, HBR9.out⟩
                  · have e0 : decide ((j : Int) > 0) = false := decide_eq_false (by omega)
                    have e0' : decide ((0 : Int) < (j : Int)) = false := e0
                    have HT : Hid (okE G j = true) := Lib.hid (by rw [HOJ.out]; unfold nextB; rw [decide_eq_true (by omega), Bool.true_or])
                    refine wpGrow_cons ?_
                    repeat (go_big_quiet_step (fail))
                    refine wpQuiet_nil ?_
                    go_wp2_with fail
                    refine pieceEnd_normal ⟨Later.refl _, ?_⟩
                    refine wpGrow_nil ?_
                    repeat (go_big_quiet_step (fail))
                    refine wpQuiet_nil ?_
                    go_wp2_with fail
                    exact ⟨⟨j + 1, by omega, by go_num, Lib.hid ⟨fun q hq => (Nat.lt_or_ge q j).elim (fun h => HK.out q h) (fun h => by rw [show q = j by omega]; exact HT.out), HB9.out⟩⟩, by simp [intOf]; omega⟩
            · have hlt2 : ¬ (j : Int) < (n : Int) := by omega
              have HE : Hid (CG = 0) := Lib.hid (HGOOD.out (HYES.out HH.out fun q hq => HK.out q (by omega)))
              go_wp2_with fail
              go_ret
              exact ⟨by rw [HE.out]; rfl, HBR.out⟩
        · have HE : Hid (CG = 14) := Lib.hid (HBAD.out (okG_head (by rw [HHD.out, show setB G.gn G.sz = false by simpa using c3]; simp)))
          rw [show setB G.gn G.sz = false by simpa using c3]
          clear c3
          go_wp2_with fail
          go_ret
          exact ⟨by rw [HE.out]; rfl, HW1.out⟩
end Go.Proofs.Ytdildmfjekdlgaa
