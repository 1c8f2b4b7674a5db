import Derived.Test.YtnjilfdmplbalaaGreatDoorStms
import Derived.Test.YtnjilfdmplbalaaGreatDoorGrowFlow
import Derived.LoopN
/- An array of slices of strings that a call fills, slot by slot. -/
namespace Go.Proofs.YtnjilfdmplbalaaGreatDoor
open Go.RowKit
def strsV (l : List ByteArray) : List Value := l.map Value.string
theorem strsV_app (l m : List ByteArray) : strsV (l ++ m) = strsV l ++ strsV m := by simp [strsV]
theorem strsV_one (l : List ByteArray) : ∀ u ∈ strsV l, u.oneCell' = true := by
  intro u hu
  obtain ⟨s, _, rfl⟩ := List.mem_map.1 hu
  rfl
def TOwn (w : World) (B : Nat) (v : Value) (l : List ByteArray) : Prop := w.ownsRow B 9 1 v l.length (strsV l)
theorem own_keep1 {w w' : World} {B : Nat} {e : TypeId} {sz : Nat} {v : Value} {n : Nat} {xs : List Value} (h : w.ownsRow B e sz v n xs) (hk : ∀ g, v.ownBlock = some g → w'.heap[g]? = w.heap[g]?) : w'.ownsRow B e sz v n xs := by
  refine ⟨h.1, ?_⟩
  rcases h.2 with hn | ⟨g, cap, cur, rfl, hg, hgg, rest⟩
  · exact .inl hn
  · exact .inr ⟨g, cap, cur, rfl, hg, (hk g rfl).trans hgg, rest⟩
theorem own_block1 {w : World} {B : Nat} {e : TypeId} {sz : Nat} {v : Value} {n : Nat} {xs : List Value} (h : w.ownsRow B e sz v n xs) {g : Nat} {cs : Array Value} {T : TypeId} {fr : Nat × Nat} (hg : w.heap[g]? = some (.cells cs T fr)) (hne : e ≠ T) : v.ownBlock ≠ some g := by
  intro h1
  rcases h.2 with ⟨hn, _⟩ | ⟨a, cap, cur, rfl, ha, hgg, rest⟩
  · subst hn; cases h1
  have e1 : a = g := by injection h1
  subst e1
  rw [hg] at hgg
  injection hgg with h3
  injection h3 with h4 h5
  exact hne h5.symm
/-- The array in block g holds slices of the call's own, no two in one block; slot n reads as f n. -/
structure Slots (w : World) (g : Nat) (v : Nat → Value) (f : Nat → List ByteArray) : Prop where
  here : w.heap[g]? = some (.cells ((List.range 200).map v).toArray 132 (0, 0))
  own : ∀ n, n < 200 → TOwn w (g + 1) (v n) (f n)
  apart : ∀ n m, n < 200 → m < 200 → n ≠ m → ∀ k, (v n).ownBlock = some k → (v m).ownBlock ≠ some k
theorem Slots.lt {w : World} {g : Nat} {v : Nat → Value} {f : Nat → List ByteArray} (h : Slots w g v f) : g < w.heap.size := (Array.getElem?_eq_some_iff.1 h.here).1
theorem Slots.keep2 {w w' : World} {g : Nat} {v : Nat → Value} {f : Nat → List ByteArray} (h : Slots w g v f) (hg : w'.heap[g]? = w.heap[g]?) (hk : ∀ n, n < 200 → ∀ k, (v n).ownBlock = some k → w'.heap[k]? = w.heap[k]?) : Slots w' g v f :=
  ⟨hg.trans h.here, fun n hn => own_keep1 (h.own n hn) fun k hk' => hk n hn k hk', h.apart⟩
theorem Slots.keep {w w' : World} {g : Nat} {v : Nat → Value} {f : Nat → List ByteArray} (h : Slots w g v f) (hk : ∀ k, g ≤ k → k < w.heap.size → w'.heap[k]? = w.heap[k]?) : Slots w' g v f :=
  ⟨(hk g (Nat.le_refl _) h.lt).trans h.here, fun n hn => own_keep1 (h.own n hn) fun k hk' => by
    have := World.ownsRow.lt (h.own n hn) k hk'
    exact hk k (by omega) this.2, h.apart⟩
theorem Slots.later {w w' : World} {g : Nat} {v : Nat → Value} {f : Nat → List ByteArray} (h : Slots w g v f) (hb : Below w.heap.size w w') : Slots w' g v f := h.keep fun k _ hk => hb.block k hk
/-- Another block has turned, which is none of its own. -/
theorem Slots.but {w w' : World} {g D : Nat} {v : Nat → Value} {f : Nat → List ByteArray} (h : Slots w g v f) (hb : But D w w') (hD : D < g) : Slots w' g v f := h.keep fun k hg hk => hb.block k hk (by omega)
theorem slots_cell (v : Nat → Value) (n : Nat) (hn : n < 200) : ((List.range 200).map v).toArray[n]? = some (v n) := by
  rw [List.getElem?_toArray, List.getElem?_map, List.getElem?_range hn]; rfl
theorem Slots.cell {w : World} {g : Nat} {v : Nat → Value} {f : Nat → List ByteArray} (h : Slots w g v f) (n : Nat) (hn : n < 200) : w.cell? ⟨g, n, none⟩ = some (v n) := by
  rw [cell_of_row _ _ _ _ _ _ h.here]; exact slots_cell v n hn
theorem Slots.nofrz {w : World} {g : Nat} {v : Nat → Value} {f : Nat → List ByteArray} (h : Slots w g v f) (n : Nat) : w.frozen? ⟨g, n, none⟩ = false := frozen_of_row _ _ _ _ _ h.here
def upd {α : Type} (f : Nat → α) (n : Nat) (x : α) : Nat → α := fun k => if k = n then x else f k
theorem upd_at {α : Type} (f : Nat → α) (n : Nat) (x : α) : upd f n x n = x := if_pos rfl
theorem upd_ne {α : Type} (f : Nat → α) {n k : Nat} (x : α) (h : k ≠ n) : upd f n x k = f k := if_neg h
theorem slots_set (v : Nat → Value) (n : Nat) (x : Value) : ((List.range 200).map v).toArray.setIfInBounds n x = ((List.range 200).map (upd v n x)).toArray := by
  apply Array.ext_getElem?
  intro i
  rw [Array.getElem?_setIfInBounds, List.size_toArray, List.length_map, List.length_range, List.getElem?_toArray, List.getElem?_toArray, List.getElem?_map, List.getElem?_map]
  by_cases hi : i < 200
  · rw [List.getElem?_range hi]
    by_cases h : n = i
    · subst h; rw [if_pos rfl, if_pos hi]; show some x = some (upd v n x n); rw [upd_at]
    · rw [if_neg h]; show some (v i) = some (upd v n x i); rw [upd_ne _ _ (fun e => h e.symm)]
  · rw [List.getElem?_eq_none (by rw [List.length_range]; omega)]
    split
    · simp; omega
    · rfl
/-- Slot n's slice has been appended to; the new slice is being stored. -/
theorem Slots.put {w w' : World} {g : Nat} {v : Nat → Value} {f : Nat → List ByteArray} (h : Slots w g v f) (n : Nat) (hn : n < 200) (hb : Below (g + 1) w w') (hk : ∀ k, k < w.heap.size → (v n).ownBlock ≠ some k → w'.heap[k]? = w.heap[k]?)
    {x : Value} {l : List ByteArray} (hx : TOwn w' (g + 1) x l) (hnew : x.ownBlock = (v n).ownBlock ∨ ∃ k, w.heap.size ≤ k ∧ x.ownBlock = some k) : Slots (w'.setCell ⟨g, n, none⟩ x) g (upd v n x) (upd f n l) := by
  have h1 : w'.heap[g]? = some (.cells ((List.range 200).map v).toArray 132 (0, 0)) := (hb.block g (Nat.lt_succ_self _)).trans h.here
  refine ⟨by rw [← slots_set]; exact heap_setCell_same _ _ _ _ _ _ h1, fun m hm => ?_, fun a b ha hb' hne k hk1 hk2 => ?_⟩
  · by_cases e : m = n
    · subst e
      rw [upd_at, upd_at]
      exact ownsRow_setCell_below hx (a := ⟨g, m, none⟩) (Nat.lt_succ_self _) x
    · rw [upd_ne _ _ e, upd_ne _ _ e]
      exact ownsRow_setCell_below (own_keep1 (h.own m hm) fun k hk' => hk k (World.ownsRow.lt (h.own m hm) k hk').2 (h.apart m n hm hn e k hk')) (a := ⟨g, n, none⟩) (Nat.lt_succ_self _) x
  · by_cases ea : a = n
    · subst ea
      rw [upd_at] at hk1
      rw [upd_ne _ _ (fun e => hne e.symm)] at hk2
      rcases hnew with e | ⟨q, hq, e⟩
      · rw [e] at hk1
        exact h.apart a b ha hb' hne k hk1 hk2
      · rw [e] at hk1
        have e2 : q = k := by injection hk1
        have := (World.ownsRow.lt (h.own b hb') k hk2).2
        omega
    · rw [upd_ne _ _ ea] at hk1
      by_cases eb : b = n
      · subst eb
        rw [upd_at] at hk2
        rcases hnew with e | ⟨q, hq, e⟩
        · rw [e] at hk2
          exact h.apart a b ha hb' hne k hk1 hk2
        · rw [e] at hk2
          have e2 : q = k := by injection hk2
          have := (World.ownsRow.lt (h.own a ha) k hk1).2
          omega
      · rw [upd_ne _ _ eb] at hk2
        exact h.apart a b ha hb' hne k hk1 hk2
end Go.Proofs.YtnjilfdmplbalaaGreatDoor
/- slices.Sort of at most one string. -/
namespace Go.Proofs.YtnjilfdmplbalaaGreatDoor
open Go.RowKit
def Done (w : World) (e : Ending) (w' : World) : Prop := e = .returned (.tuple #[]) ∧ w = w'
set_option maxRecDepth 100000 in
set_option maxHeartbeats 4000000 in
theorem insertion1 (A : Option Addr) (n c : Nat) (w : World) (hn : n ≤ 1) :
    Calls Tryz.prog 154 #[.slice A n c, .int .i64 0, .int .i64 n] w (Done w) := by
  go_enter Tryz.func154, Tryz.ntmps154
  go_wp2_with fail
  refine wp_loop_rounds 1 ?_
  rw [rounds_succ]
  go_wp2
  first | go_end0 | refine bodyPost_ret (results_none rfl _ _ _) rfl ?_
  exact ⟨rfl, rfl⟩
set_option maxRecDepth 100000 in
set_option maxHeartbeats 4000000 in
theorem pdq1 (A : Option Addr) (n c : Nat) (x : Int) (w : World) (hn : n ≤ 1) :
    Calls Tryz.prog 147 #[.slice A n c, .int .i64 0, .int .i64 n, .int .i64 x] w (Done w) := by
  go_enter Tryz.func147, Tryz.ntmps147
  go_wp2_with fail
  refine wp_loop_rounds 1 ?_
  rw [rounds_succ]
  go_wp2_with fail
  refine (insertion1 A n c w hn).mono ?_
  rintro e w1 ⟨rfl, rfl⟩
  go_wp2_with fail
  first | go_end0 | refine bodyPost_ret (results_none rfl _ _ _) rfl ?_
  exact ⟨rfl, rfl⟩
set_option maxRecDepth 100000 in
set_option maxHeartbeats 4000000 in
theorem len_any (n : Nat) (w : World) (hn : n ≤ 1) : Calls Tryz.prog 88 #[.int .u64 n] w fun e w' => (∃ x, e = .returned (.int .i64 x)) ∧ w = w' := by
  have h : n = 0 ∨ n = 1 := by omega
  rcases h with rfl | rfl
  · go_enter Tryz.func88, Tryz.ntmps88
    go_wp2
    go_ret
    exact ⟨⟨_, rfl⟩, rfl⟩
  · go_enter Tryz.func88, Tryz.ntmps88
    go_wp2
    go_ret
    exact ⟨⟨_, rfl⟩, rfl⟩
set_option maxRecDepth 100000 in
set_option maxHeartbeats 4000000 in
theorem sort1 (A : Option Addr) (n c : Nat) (w : World) (hn : n ≤ 1) : Calls Tryz.prog 138 #[.slice A n c] w (Done w) := by
  go_enter Tryz.func138, Tryz.ntmps138
  go_wp2_with fail
  refine (len_any n w hn).mono ?_
  rintro e w1 ⟨⟨x, rfl⟩, rfl⟩
  go_wp2_with fail
  refine (pdq1 A n c x w hn).mono ?_
  rintro e w1 ⟨rfl, rfl⟩
  go_wp2_with fail
  first | go_end0 | refine bodyPost_ret (results_none rfl _ _ _) rfl ?_
  exact ⟨rfl, rfl⟩
end Go.Proofs.YtnjilfdmplbalaaGreatDoor
/- slices.Sort of two strings. -/
namespace Go.Proofs.YtnjilfdmplbalaaGreatDoor
open Go.RowKit
theorem less_any (s t : ByteArray) (w : World) : Calls Tryz.prog 160 #[.string s, .string t] w fun e w' => e = .returned (.bool (Op.bytesLess s.toList t.toList)) ∧ w = w' := by
  go_enter Tryz.func160, Tryz.ntmps160
  go_wp2
  go_ret
  exact ⟨rfl, rfl⟩
theorem cell_fut {w : World} {a : Addr} {v : Value} (h : w.cell? a = some v) : ∀ x, (fut Later w x).cell? a = some v := fun x =>
  ((fut_ok Later.refl w x).cell (p := a) (World.block_lt_of_cell? _ _ h)).trans h
set_option maxRecDepth 100000 in
set_option maxHeartbeats 4000000 in
theorem insertion2 (q o c : Nat) (s0 s1 : ByteArray) (w : World) (h0 : w.cell? ⟨q, o, none⟩ = some (.string s0)) (h1 : w.cell? ⟨q, o + 1, none⟩ = some (.string s1)) (g0 : w.frozen? ⟨q, o, none⟩ = false) (g1 : w.frozen? ⟨q, o + 1, none⟩ = false) :
    Calls Tryz.prog 154 #[.slice (some ⟨q, o, none⟩) 2 c, .int .i64 0, .int .i64 2] w fun e w' => e = .returned (.tuple #[]) ∧ But q w w' ∧
      ((w'.cell? ⟨q, o, none⟩ = some (.string s0) ∧ w'.cell? ⟨q, o + 1, none⟩ = some (.string s1)) ∨ (w'.cell? ⟨q, o, none⟩ = some (.string s1) ∧ w'.cell? ⟨q, o + 1, none⟩ = some (.string s0))) := by
  have HC0 := Lib.hid h0; have HC1 := Lib.hid h1; have HF0 := Lib.hid g0; have HF1 := Lib.hid g1
  clear h0 h1 g0 g1
  go_enter Tryz.func154, Tryz.ntmps154
  go_wp2_with fail
  refine wp_loop_rounds 2 ?_
  rw [rounds_succ]
  go_wp2_with fail
  refine wp_loop_rounds 2 ?_
  rw [rounds_succ]
  go_wp2_with fail
  refine wp_region_grow (by kernel_rfl) Later Later.refl (fun _ _ _ => Later.trans) [14] [([0, 1, 2, 3, 4, 5, 6, 7, 8, 9, 10, 11, 12], 13)] (by kernel_rfl) (by kernel_rfl) (by kernel_rfl) ?_
  simp only [List.map_cons, List.map_nil, pick, List.getD_cons_zero, List.getD_cons_succ]
  have hc0 := cell_fut (w := w.drew) HC0.out
  have hc1 := cell_fut (w := w.drew) HC1.out
  refine wpGrow_cons ?_
  repeat (go_big_quiet_step (fail))
  refine wpQuiet_nil ?_
  clear hc0 hc1
  go_wp2_with fail
  refine (less_any s1 s0 w.drew).mono ?_
  rintro e w1 ⟨rfl, rfl⟩
  generalize Op.bytesLess s1.toList s0.toList = bb
  go_wp2_with fail
  refine pieceEnd_normal ⟨Later.refl _, ?_⟩
  refine wpGrow_nil ?_
  repeat (go_big_quiet_step (fail))
  refine wpQuiet_nil ?_
  have HB : Hid (But q w w.drew) := Lib.hid (But.drewN w 1)
  cases bb
  · go_wp2_with fail
    rw [rounds_succ]
    go_wp2_with fail
    first | go_end0 | refine bodyPost_ret (results_none rfl _ _ _) rfl ?_
    exact ⟨rfl, HB.out, .inl ⟨HC0.out, HC1.out⟩⟩
  · go_wp2_with fail
    refine wp_region_flow (by kernel_rfl) (fun _ _ => True) ?_
    have hc0 : w.drew.drew.cell? ⟨q, o, none⟩ = some (.string s0) := HC0.out
    have hc1 : w.drew.drew.cell? ⟨q, o + 1, none⟩ = some (.string s1) := HC1.out
    have hf0 : w.drew.drew.frozen? ⟨q, o, none⟩ = false := HF0.out
    have hf1 : w.drew.drew.frozen? ⟨q, o + 1, none⟩ = false := HF1.out
    have HBX : Hid (But q w w.drew.drew) := Lib.hid (HB.out.trans (But.drewN w.drew 1))
    generalize w.drew.drew = y at hc0 hc1 hf0 hf1 HBX ⊢
    have HSW : Hid (((y.setCell ⟨q, o + 1, none⟩ (.string s0)).setCell ⟨q, o, none⟩ (.string s1)).cell? ⟨q, o, none⟩ = some (.string s1) ∧ ((y.setCell ⟨q, o + 1, none⟩ (.string s0)).setCell ⟨q, o, none⟩ (.string s1)).cell? ⟨q, o + 1, none⟩ = some (.string s0)) := Lib.hid (by
      have hn1 : (⟨q, o, none⟩ : Addr) ≠ ⟨q, o + 1, none⟩ := fun e => by injection e with e1 e2 e3; omega
      have hn2 : (⟨q, o + 1, none⟩ : Addr) ≠ ⟨q, o, none⟩ := fun e => hn1 e.symm
      exact ⟨World.cell?_setCell_same _ _ _ ((World.cell?_setCell_other _ _ _ _ hn2).trans hc0), (World.cell?_setCell_other _ _ _ _ hn1).trans (World.cell?_setCell_same _ _ _ hc1)⟩)
    refine flow_reads (F := fun _ _ => True) (fun _ => trivial) (by kernel_rfl) [0, 1, 2, 3, 4, 5, 6, 7, 8, 10, 11, 12] (fuel := 6) (by kernel_rfl) ?_
    simp only [List.map_cons, List.map_nil, pick, List.getD_cons_zero, List.getD_cons_succ]
    repeat (go_big_quiet_step (fail))
    refine wpQuiet_nil ?_
    refine flow_two (F := fun _ _ => True) (fun _ _ _ _ _ => trivial) (fun _ => trivial) 9 13 (by kernel_rfl) (by decide) (by decide) ?_ ?_ <;> simp only [pick, List.getD_cons_zero, List.getD_cons_succ]
    · go_wp2_with fail
      refine pieceEnd_normal ⟨trivial, ?_⟩
      refine flow_one (F := fun _ _ => True) (fun _ _ _ _ _ => trivial) (fun _ => trivial) 13 (by kernel_rfl) (by decide) ?_
      simp only [pick, List.getD_cons_zero, List.getD_cons_succ]
      go_wp2_with fail
      refine pieceEnd_normal ⟨trivial, ?_⟩
      refine flow_one (F := fun _ _ => True) (fun _ _ _ _ _ => trivial) (fun _ => trivial) 14 (by kernel_rfl) (by decide) ?_
      simp only [pick, List.getD_cons_zero, List.getD_cons_succ]
      go_wp2_with fail
      refine pieceEnd_normal ⟨trivial, ?_⟩
      refine flow_one (F := fun _ _ => True) (fun _ _ _ _ _ => trivial) (fun _ => trivial) 15 (by kernel_rfl) (by decide) ?_
      simp only [pick, List.getD_cons_zero, List.getD_cons_succ]
      go_wp2_with fail
      refine pieceEnd_normal ⟨trivial, ?_⟩
      refine flow_one (F := fun _ _ => True) (fun _ _ _ _ _ => trivial) (fun _ => trivial) 16 (by kernel_rfl) (by decide) ?_
      simp only [pick, List.getD_cons_zero, List.getD_cons_succ]
      go_wp2_with fail
      refine pieceEnd_normal ⟨trivial, ?_⟩
      refine flow_one (F := fun _ _ => True) (fun _ _ _ _ _ => trivial) (fun _ => trivial) 17 (by kernel_rfl) (by decide) ?_
      simp only [pick, List.getD_cons_zero, List.getD_cons_succ]
      go_wp2_with fail
      refine pieceEnd_normal ⟨trivial, ?_⟩
      refine flow_done (by kernel_rfl) ?_
      have HEND : Hid (But q w ((y.setCell ⟨q, o + 1, none⟩ (.string s0)).setCell ⟨q, o, none⟩ (.string s1)).drew ∧ ((((y.setCell ⟨q, o + 1, none⟩ (.string s0)).setCell ⟨q, o, none⟩ (.string s1)).drew.cell? ⟨q, o, none⟩ = some (.string s0) ∧ ((y.setCell ⟨q, o + 1, none⟩ (.string s0)).setCell ⟨q, o, none⟩ (.string s1)).drew.cell? ⟨q, o + 1, none⟩ = some (.string s1)) ∨ (((y.setCell ⟨q, o + 1, none⟩ (.string s0)).setCell ⟨q, o, none⟩ (.string s1)).drew.cell? ⟨q, o, none⟩ = some (.string s1) ∧ ((y.setCell ⟨q, o + 1, none⟩ (.string s0)).setCell ⟨q, o, none⟩ (.string s1)).drew.cell? ⟨q, o + 1, none⟩ = some (.string s0)))) := Lib.hid ⟨((HBX.out.trans (But.set y (o + 1) (.string s0))).trans (But.set _ o (.string s1))).trans (But.drewN _ 1), .inr (HSW.out)⟩
      go_wp2_with fail
      rw [rounds_succ]
      go_wp2_with fail
      refine wp_region_grow (by kernel_rfl) Later Later.refl (fun _ _ _ => Later.trans) [14] [([0, 1, 2, 3, 4, 5, 6, 7, 8, 9, 10, 11, 12], 13)] (by kernel_rfl) (by kernel_rfl) (by kernel_rfl) ?_
      simp only [List.map_cons, List.map_nil, pick, List.getD_cons_zero, List.getD_cons_succ]
      refine wpGrow_cons ?_
      repeat (go_big_quiet_step (fail))
      refine wpQuiet_nil ?_
      go_wp2_with fail
      refine pieceEnd_normal ⟨Later.refl _, ?_⟩
      refine wpGrow_nil ?_
      repeat (go_big_quiet_step (fail))
      refine wpQuiet_nil ?_
      go_wp2_with fail
      rw [rounds_succ]
      go_wp2_with fail
      first | go_end0 | refine bodyPost_ret (results_none rfl _ _ _) rfl ?_
      exact ⟨rfl, HEND.out⟩
    · go_wp2_with fail
      refine pieceEnd_normal ⟨trivial, ?_⟩
      refine flow_one (F := fun _ _ => True) (fun _ _ _ _ _ => trivial) (fun _ => trivial) 9 (by kernel_rfl) (by decide) ?_
      simp only [pick, List.getD_cons_zero, List.getD_cons_succ]
      go_wp2_with fail
      refine pieceEnd_normal ⟨trivial, ?_⟩
      refine flow_one (F := fun _ _ => True) (fun _ _ _ _ _ => trivial) (fun _ => trivial) 14 (by kernel_rfl) (by decide) ?_
      simp only [pick, List.getD_cons_zero, List.getD_cons_succ]
      go_wp2_with fail
      refine pieceEnd_normal ⟨trivial, ?_⟩
      refine flow_one (F := fun _ _ => True) (fun _ _ _ _ _ => trivial) (fun _ => trivial) 15 (by kernel_rfl) (by decide) ?_
      simp only [pick, List.getD_cons_zero, List.getD_cons_succ]
      go_wp2_with fail
      refine pieceEnd_normal ⟨trivial, ?_⟩
      refine flow_one (F := fun _ _ => True) (fun _ _ _ _ _ => trivial) (fun _ => trivial) 16 (by kernel_rfl) (by decide) ?_
      simp only [pick, List.getD_cons_zero, List.getD_cons_succ]
      go_wp2_with fail
      refine pieceEnd_normal ⟨trivial, ?_⟩
      refine flow_one (F := fun _ _ => True) (fun _ _ _ _ _ => trivial) (fun _ => trivial) 17 (by kernel_rfl) (by decide) ?_
      simp only [pick, List.getD_cons_zero, List.getD_cons_succ]
      go_wp2_with fail
      refine pieceEnd_normal ⟨trivial, ?_⟩
      refine flow_done (by kernel_rfl) ?_
      have HEND : Hid (But q w ((y.setCell ⟨q, o + 1, none⟩ (.string s0)).setCell ⟨q, o, none⟩ (.string s1)).drew ∧ ((((y.setCell ⟨q, o + 1, none⟩ (.string s0)).setCell ⟨q, o, none⟩ (.string s1)).drew.cell? ⟨q, o, none⟩ = some (.string s0) ∧ ((y.setCell ⟨q, o + 1, none⟩ (.string s0)).setCell ⟨q, o, none⟩ (.string s1)).drew.cell? ⟨q, o + 1, none⟩ = some (.string s1)) ∨ (((y.setCell ⟨q, o + 1, none⟩ (.string s0)).setCell ⟨q, o, none⟩ (.string s1)).drew.cell? ⟨q, o, none⟩ = some (.string s1) ∧ ((y.setCell ⟨q, o + 1, none⟩ (.string s0)).setCell ⟨q, o, none⟩ (.string s1)).drew.cell? ⟨q, o + 1, none⟩ = some (.string s0)))) := Lib.hid ⟨((HBX.out.trans (But.set y (o + 1) (.string s0))).trans (But.set _ o (.string s1))).trans (But.drewN _ 1), .inr (HSW.out)⟩
      go_wp2_with fail
      rw [rounds_succ]
      go_wp2_with fail
      refine wp_region_grow (by kernel_rfl) Later Later.refl (fun _ _ _ => Later.trans) [14] [([0, 1, 2, 3, 4, 5, 6, 7, 8, 9, 10, 11, 12], 13)] (by kernel_rfl) (by kernel_rfl) (by kernel_rfl) ?_
      simp only [List.map_cons, List.map_nil, pick, List.getD_cons_zero, List.getD_cons_succ]
      refine wpGrow_cons ?_
      repeat (go_big_quiet_step (fail))
      refine wpQuiet_nil ?_
      go_wp2_with fail
      refine pieceEnd_normal ⟨Later.refl _, ?_⟩
      refine wpGrow_nil ?_
      repeat (go_big_quiet_step (fail))
      refine wpQuiet_nil ?_
      go_wp2_with fail
      rw [rounds_succ]
      go_wp2_with fail
      first | go_end0 | refine bodyPost_ret (results_none rfl _ _ _) rfl ?_
      exact ⟨rfl, HEND.out⟩
/-- The slice of two strings, one order or the other. -/
def Two2 (q o : Nat) (s0 s1 : ByteArray) (w : World) (e : Ending) (w' : World) : Prop := e = .returned (.tuple #[]) ∧ But q w w' ∧
      ((w'.cell? ⟨q, o, none⟩ = some (.string s0) ∧ w'.cell? ⟨q, o + 1, none⟩ = some (.string s1)) ∨ (w'.cell? ⟨q, o, none⟩ = some (.string s1) ∧ w'.cell? ⟨q, o + 1, none⟩ = some (.string s0)))
set_option maxRecDepth 100000 in
set_option maxHeartbeats 4000000 in
theorem pdq2 (q o c : Nat) (s0 s1 : ByteArray) (x : Int) (w : World) (h0 : w.cell? ⟨q, o, none⟩ = some (.string s0)) (h1 : w.cell? ⟨q, o + 1, none⟩ = some (.string s1)) (g0 : w.frozen? ⟨q, o, none⟩ = false) (g1 : w.frozen? ⟨q, o + 1, none⟩ = false) :
    Calls Tryz.prog 147 #[.slice (some ⟨q, o, none⟩) 2 c, .int .i64 0, .int .i64 2, .int .i64 x] w (Two2 q o s0 s1 w) := by
  have HI := Lib.hid (insertion2 q o c s0 s1 w h0 h1 g0 g1)
  clear h0 h1 g0 g1
  go_enter Tryz.func147, Tryz.ntmps147
  go_wp2_with fail
  refine wp_loop_rounds 1 ?_
  rw [rounds_succ]
  go_wp2_with fail
  refine HI.out.mono ?_
  rintro e w1 ⟨rfl, hb, ho⟩
  have HO := Lib.hid ho; have HB := Lib.hid hb; clear ho hb HI
  go_wp2_with fail
  first | go_end0 | refine bodyPost_ret (results_none rfl _ _ _) rfl ?_
  exact ⟨rfl, HB.out, HO.out⟩
set_option maxRecDepth 100000 in
set_option maxHeartbeats 4000000 in
theorem len2 (w : World) : Calls Tryz.prog 88 #[.int .u64 2] w fun e w' => (∃ x, e = .returned (.int .i64 x)) ∧ w = w' := by
  go_enter Tryz.func88, Tryz.ntmps88
  go_wp2
  go_ret
  exact ⟨⟨_, rfl⟩, rfl⟩
set_option maxRecDepth 100000 in
set_option maxHeartbeats 4000000 in
theorem sort2 (q o c : Nat) (s0 s1 : ByteArray) (w : World) (h0 : w.cell? ⟨q, o, none⟩ = some (.string s0)) (h1 : w.cell? ⟨q, o + 1, none⟩ = some (.string s1)) (g0 : w.frozen? ⟨q, o, none⟩ = false) (g1 : w.frozen? ⟨q, o + 1, none⟩ = false) :
    Calls Tryz.prog 138 #[.slice (some ⟨q, o, none⟩) 2 c] w (Two2 q o s0 s1 w) := by
  have HI := Lib.hid (fun x => pdq2 q o c s0 s1 x w h0 h1 g0 g1)
  clear h0 h1 g0 g1
  go_enter Tryz.func138, Tryz.ntmps138
  go_wp2_with fail
  refine (len2 w).mono ?_
  rintro e w1 ⟨⟨x, rfl⟩, rfl⟩
  go_wp2_with fail
  refine (HI.out x).mono ?_
  rintro e w1 ⟨rfl, hb, ho⟩
  have HO := Lib.hid ho; have HB := Lib.hid hb; clear ho hb HI
  go_wp2_with fail
  first | go_end0 | refine bodyPost_ret (results_none rfl _ _ _) rfl ?_
  exact ⟨rfl, HB.out, HO.out⟩
end Go.Proofs.YtnjilfdmplbalaaGreatDoor
/- Reading an array's slot. -/
namespace Go.Proofs.YtnjilfdmplbalaaGreatDoor
open Go.RowKit
theorem run_idx (cs : Array Value) (i : Nat) (hi : i < 200) (x : Value) (hx : cs[i]? = some x) (w : World) : (Instr.index 132 (.agg cs) (.int .i64 (i : Int))).run Tryz.prog w = .ok x w := by
  have h1 : (0 : Int) ≤ (i : Int) ∧ (i : Int) < ((200 : Nat) : Int) := by omega
  have hsz : ∀ w, (sizeOf 131).run Tryz.prog w = .ok 1 w := fun w => by kernel_rfl
  have hag : ∀ w, (isAgg 131).run Tryz.prog w = .ok false w := fun w => by kernel_rfl
  have hpt : ∀ w, (part 131 cs i).run Tryz.prog w = .ok x w := fun w => by
    unfold part
    simp [hx, hag]
  simp [Instr.index, asIntOf, run_underlying Tryz.underlying132, h1, hsz, hpt, Result.andThen]
  intro h
  omega
end Go.Proofs.YtnjilfdmplbalaaGreatDoor
/- The walk of chain.known's byNumber. -/
namespace Go.Proofs.YtnjilfdmplbalaaGreatDoor
open Go.RowKit
/-- The digests with number n of those that have come, in the order in which they came. -/
def came (l : List Stm) (seen : Array Nat) (n : Nat) : List ByteArray := (seen.toList.filter fun j => decide ((l.getD j noStm).number = n)).map fun j => (l.getD j noStm).dig
theorem came_push (l : List Stm) (seen : Array Nat) (j n : Nat) : came l (seen.push j) n = if (l.getD j noStm).number = n then came l seen n ++ [(l.getD j noStm).dig] else came l seen n := by
  unfold came
  rw [Array.toList_push, List.filter_append, List.map_append]
  by_cases h : (l.getD j noStm).number = (n : Int)
  · rw [if_pos h, show List.filter (fun j => decide ((l.getD j noStm).number = (n : Int))) [j] = [j] from by rw [List.filter_cons, if_pos (decide_eq_true h)]; rfl]
    rfl
  · rw [if_neg h, show List.filter (fun j => decide ((l.getD j noStm).number = (n : Int))) [j] = [] from by rw [List.filter_cons, if_neg (by simpa using h)]; rfl]
    rw [List.map_nil, List.append_nil]
theorem zero200 : Tryz.zeroCells132 = ((List.range 200).map fun _ => Value.slice none 0 0).toArray := by kernel_rfl
theorem slots_new (w : World) (o : Obj) : Slots ((w.alloc o).alloc (.cells Tryz.zeroCells132 132)) (w.heap.size + 1) (fun _ => .slice none 0 0) (fun _ => []) := by
  refine ⟨?_, fun n _ => World.ownsRow_nil _ _ _ _, fun n m _ _ _ k h => by cases h⟩
  have h := heap_alloc_new (w.alloc o) (.cells Tryz.zeroCells132 132)
  rw [show (w.alloc o).heap.size = w.heap.size + 1 by simp, zero200] at h
  rw [zero200]
  exact h
theorem str_info : (Tryz.prog.info? 9).map (fun i => (i.zero, i.size, i.bytes)) = some (some (.string ⟨#[]⟩), 1, 16) := by kernel_rfl
theorem own_notIter {w : World} {B : Nat} {e : TypeId} {sz : Nat} {v : Value} {n : Nat} {xs : List Value} (h : w.ownsRow B e sz v n xs) {r b q : Nat} {seen : Array Nat} (hr : IterAt w r b q seen) : v.ownBlock ≠ some r := by
  intro e1
  rcases h.2 with ⟨hn, _⟩ | ⟨a, cap, cur, rfl, ha, hgg, rest⟩
  · subst hn; cases e1
  have e2 : a = r := by injection e1
  subst e2
  unfold IterAt at hr
  rw [hr] at hgg
  cases hgg
theorem came_fun (l : List Stm) (seen : Array Nat) (j N : Nat) (h : (l.getD j noStm).number = (N : Int)) : came l (seen.push j) = upd (came l seen) N (came l seen N ++ [(l.getD j noStm).dig]) := by
  funext n
  rw [came_push, h]
  unfold upd
  by_cases e : n = N
  · subst e; rw [if_pos rfl, if_pos rfl]
  · rw [if_neg (fun e2 => e (by omega)), if_neg e]
theorem came_len (l : List Stm) (seen : Array Nat) (n : Nat) : (came l seen n).length ≤ seen.size := by
  unfold came
  rw [List.length_map]
  exact Nat.le_trans (List.length_filter_le _ _) (by simp)
/-- In the midst of the sorting: the slots below i are sorted, the others are as they were filled. -/
structure LInv (w : World) (g : Nat) (v : Nat → Value) (f f2 : Nat → List ByteArray) (i : Nat) : Prop where
  todo : ∀ n, i ≤ n → n < 200 → TOwn w (g + 1) (v n) (f n)
  done : ∀ n, n < i → n < 200 → ∃ A k c, v n = .slice A k c ∧ Row w A k c 1 (strsV (f2 n)) ∧ (f2 n).Perm (f n)
theorem two_of {α : Type} {z : List α} (h1 : ¬ z.length ≤ 1) (h2 : z.length ≤ 2) : ∃ a b, z = [a, b] := by
  rcases z with _ | ⟨a, _ | ⟨b, _ | ⟨c, r⟩⟩⟩
  · simp at h1
  · simp at h1
  · exact ⟨a, b, rfl⟩
  · simp at h2
theorem row_two {w : World} {q c : Nat} {x y : ByteArray} (hc : 2 ≤ c) (h0 : w.cell? ⟨q, 0, none⟩ = some (.string x)) (h1 : w.cell? ⟨q, 0 + 1, none⟩ = some (.string y)) : Row w (some ⟨q, 0, none⟩) 2 c 1 (strsV [x, y]) := by
  refine ⟨rfl, hc, fun e => (by cases e), fun ad e _ => ?_⟩
  injection e with e; subst e
  refine ⟨q, 0, rfl, fun i hi => ?_⟩
  rcases i with _ | _ | i
  · exact h0
  · exact h1
  · omega
theorem came_perm (l : List Stm) (seen : Array Nat) (n : Nat) (h : seen.toList.Perm (List.range l.length)) : (came l seen n).Perm ((l.filter fun s => decide (s.number = (n : Int))).map (·.dig)) := by
  unfold came
  refine ((h.filter _).map _).trans (List.Perm.of_eq ?_)
  have e : l = (List.range l.length).map fun j => l.getD j noStm := by
    apply List.ext_getElem?
    intro i
    rw [List.getElem?_map]
    by_cases hi : i < l.length
    · rw [List.getElem?_range hi, List.getElem?_eq_getElem hi]
      simp [hi]
    · rw [List.getElem?_eq_none (by omega), List.getElem?_eq_none (by rw [List.length_range]; omega)]
      rfl
  conv => rhs; rw [e]
  rw [List.filter_map, List.map_map]
  rfl
set_option maxRecDepth 100000 in
set_option maxHeartbeats 4000000 in
theorem byNumber_any (b : Nat) (l : List Stm) (w : World) (hm : MapAt w b (l.map pairS)) (hln : l.length ≤ 1000) (h2 : ∀ n : Nat, (l.filter fun s => decide (s.number = (n : Int))).length ≤ 2) (hg : ∀ s ∈ l, 0 ≤ s.number ∧ s.number < 200) :
    Calls Tryz.prog 125 #[.map (some b)] w fun e w' => ∃ (v : Nat → Value) (f : Nat → List ByteArray), e = .returned (.agg ((List.range 200).map v).toArray) ∧ Below w.heap.size w w' ∧
      ∀ n, n < 200 → ∃ A k c, v n = .slice A k c ∧ Row w' A k c 1 (strsV (f n)) ∧ (f n).Perm ((l.filter fun s => decide (s.number = (n : Int))).map (·.dig)) ∧ ∀ ad, A = some ad → w.heap.size ≤ ad.block := by
  obtain ⟨W2, hW⟩ : ∃ W, W = (w.alloc (.cells Tryz.zeroCells132 132)).alloc (.cells Tryz.zeroCells132 132) := ⟨_, rfl⟩
  have HB : Hid (Below w.heap.size w W2) := Lib.hid (by rw [hW]; exact (one_new w _).trans ((one_new _ _).mono (by simp)))
  have HM : Hid (MapAt W2 b (l.map pairS)) := Lib.hid (hm.later HB.out)
  have HS : Hid (Slots W2 (w.heap.size + 1) (fun _ => .slice none 0 0) (came l #[])) := Lib.hid (by rw [hW]; exact slots_new w _)
  have HZ : Hid (W2.heap.size = w.heap.size + 1 + 1) := Lib.hid (by rw [hW]; simp)
  have HXX : Hid (W2.heap[w.heap.size]? = some (.cells Tryz.zeroCells132 132 (0, 0))) := Lib.hid (by rw [hW]; exact (Below.heap_alloc _ _ _ (by simp)).trans (heap_alloc_new _ _))
  have HBL : Hid (b < w.heap.size) := Lib.hid hm.lt
  clear hm
  have HW := Lib.hid hW; clear hW
  go_enter Tryz.func125, Tryz.ntmps125
  go_wp2_with fail
  rw [← HW.out]
  clear HW
  have hrg := run_over (P := Tryz.prog) HM.out Tryz.underlying110
  rw [hrg]
  clear hrg
  have HIT : Hid (IterAt (W2.alloc (.mapIter (some b) (l.map pairS).length #[] (l.map pairS).length)) (w.heap.size + 1 + 1) b (l.map pairS).length #[]) := Lib.hid (by
    have h := heap_alloc_new W2 (.mapIter (some b) (l.map pairS).length #[] (l.map pairS).length)
    rw [HZ.out] at h
    exact h)
  replace HM := Lib.hid (HM.out.later (one_new W2 (.mapIter (some b) (l.map pairS).length #[] (l.map pairS).length)))
  replace HS := Lib.hid (HS.out.later (one_new W2 (.mapIter (some b) (l.map pairS).length #[] (l.map pairS).length)))
  have HX : Hid ((W2.alloc (.mapIter (some b) (l.map pairS).length #[] (l.map pairS).length)).heap[w.heap.size]? = some (.cells Tryz.zeroCells132 132 (0, 0))) := Lib.hid (((one_new W2 _).block _ (by rw [HZ.out]; omega)).trans HXX.out)
  replace HB := Lib.hid (HB.out.trans ((one_new W2 (.mapIter (some b) (l.map pairS).length #[] (l.map pairS).length)).mono HB.out.size))
  clear HXX
  have hz := HZ.out
  rw [hz]
  generalize W2.alloc (.mapIter (some b) (l.map pairS).length #[] (l.map pairS).length) = W3 at HIT HM HS HX HB ⊢
  clear hz HZ W2
  go_wp2_with fail
  go_loopw [4] (fun _ wr => ∃ (seen : Array Nat) (v : Nat → Value), Hid (IterAt wr (w.heap.size + 1 + 1) b (l.map pairS).length seen ∧ MapAt wr b (l.map pairS) ∧ Slots wr (w.heap.size + 1) v (came l seen) ∧ Below w.heap.size w wr ∧ wr.heap[w.heap.size]? = some (.cells Tryz.zeroCells132 132 (0, 0)) ∧
      seen.size + (leftOf (entsFrom (l.map pairS) 0).toArray seen).size ≤ l.length ∧ seen.toList.Nodup ∧ ∀ q ∈ seen.toList, q < l.length)) (fun _ wr => leftW wr (w.heap.size + 1 + 1) b)
  case atStart => exact ⟨#[], _, Lib.hid ⟨HIT.out, HM.out, HS.out, HB.out, HX.out, by
    have h := Array.size_filter_le (p := fun e : MapEntry => !(#[] : Array Nat).contains e.born) (xs := (entsFrom (l.map pairS) 0).toArray)
    unfold leftOf
    have h2 : (entsFrom (l.map pairS) 0).toArray.size = l.length := by rw [List.size_toArray, entsFrom_len, List.length_map]
    have h3 : (Array.filter (fun e => !(#[] : Array Nat).contains e.born) (entsFrom (l.map pairS) 0).toArray).size ≤ l.length := h2 ▸ h
    show 0 + _ ≤ _
    rw [Nat.zero_add]
    exact h3, List.nodup_nil, fun q hq => by cases hq⟩⟩
  case round =>
    clear HIT HM HS HB HX
    obtain ⟨seen, v, HQ⟩ := hrel
    rcases run_nextPair (P := Tryz.prog) HQ.out.1 HQ.out.2.1 0 with ⟨hall, hnx⟩ | ⟨j, k, val, w1, hj, hns, hnx, hit, hbut, hless⟩
    · have hperm : seen.toList.Perm (List.range l.length) := (List.perm_ext_iff_of_nodup HQ.out.2.2.2.2.2.2.1 List.nodup_range).2 fun q => by
        rw [List.mem_range]
        refine ⟨fun h => HQ.out.2.2.2.2.2.2.2 q h, fun h => ?_⟩
        have h3 := hall q (by rw [List.length_map]; exact h)
        rw [Array.contains_iff_mem] at h3
        simpa using h3
      have HPE : Hid (∀ n : Nat, (came l seen n).Perm ((l.filter fun s => decide (s.number = (n : Int))).map (·.dig))) := Lib.hid fun n => came_perm l seen n hperm
      have HL2 : Hid (∀ n, (came l seen n).length ≤ 2) := Lib.hid fun n => by rw [(HPE.out n).length_eq, List.length_map]; exact h2 n
      have HS := Lib.hid HQ.out.2.2.1; have HB := Lib.hid HQ.out.2.2.2.1; have HX := Lib.hid HQ.out.2.2.2.2.1
      clear hall HQ hperm
      obtain ⟨cs, hcs⟩ : ∃ cs, cs = ((List.range 200).map v).toArray := ⟨_, rfl⟩
      have HH : Hid (wr.heap[w.heap.size + 1]? = some (.cells cs 132 (0, 0))) := Lib.hid (by rw [hcs]; exact HS.out.here)
      have HSZ : Hid ((Tryz.prog.info? 132).map (·.size) = some cs.size) := Lib.hid (by rw [hcs, List.size_toArray, List.length_map, List.length_range]; kernel_rfl)
      have HC1 : Hid (cs.all (·.oneCell') = true) := Lib.hid (by
        rw [hcs, List.all_toArray, List.all_eq_true]
        intro x hx
        obtain ⟨n, hn, rfl⟩ := List.mem_map.1 hx
        obtain ⟨A, c, e, _⟩ := Row.of_own (HS.out.own n (by simpa using hn))
        rw [e]; rfl)
      have HZC : Hid (Tryz.zeroCells132.size = cs.size) := Lib.hid (by rw [hcs, zero200, List.size_toArray, List.size_toArray, List.length_map, List.length_map])
      have HCS : Hid (∀ i, i < 200 → cs[i]? = some (v i)) := Lib.hid fun i hi => by rw [hcs]; exact slots_cell v i hi
      have HAP := Lib.hid HS.out.apart
      have HLO : Hid (∀ n, n < 200 → ∀ k, (v n).ownBlock = some k → w.heap.size + 1 + 1 ≤ k) := Lib.hid fun n hn k hk => (World.ownsRow.lt (HS.out.own n hn) k hk).1
      have HIN : Hid (LInv wr (w.heap.size + 1) v (came l seen) (fun _ => []) 0) := Lib.hid ⟨fun n _ hn => HS.out.own n hn, fun n h => absurd h (Nat.not_lt_zero n)⟩
      have HCV := Lib.hid hcs; clear hcs HS
      go_wp2_with (refine wpList_load_row rfl 132 (.tmp 3) rfl (w.heap.size + 1) rfl 132 cs (0, 0) _ HH.out Tryz.underlying132 rfl HSZ.out ?_)
      clear hnx
      go_loopw [26] (fun i wq => ∃ (j : Nat) (f : Nat → List ByteArray), j ≤ 200 ∧ i = .int .i64 j ∧ Hid (LInv wq (w.heap.size + 1) v (came l seen) f j ∧ wq.heap[w.heap.size + 1]? = some (.cells cs 132 (0, 0)) ∧ Below w.heap.size w wq ∧ wq.heap[w.heap.size]? = some (.cells Tryz.zeroCells132 132 (0, 0)))) (fun i _ => 200 - (intOf i).toNat)
      case atStart => exact ⟨0, fun _ => [], by omega, rfl, Lib.hid ⟨HIN.out, HH.out, HB.out, HX.out⟩⟩
      case round =>
        clear HIN HH HB HX
        obtain ⟨j, f, hj, rfl, HQ⟩ := hrel
        by_cases hlt : j < 200
        · obtain ⟨A, c, hv, hrow⟩ := Row.of_own (HQ.out.1.todo j (Nat.le_refl _) hlt)
          have hidx := run_idx cs j hlt (.slice A (came l seen j).length c) (by rw [HCS.out j hlt, hv])
          have HOJ := Lib.hid (HQ.out.1.todo j (Nat.le_refl _) hlt)
          rw [hv] at HOJ
          have hl2 := HL2.out j
          have HV := Lib.hid hv; have HRJ := Lib.hid hrow; clear hv hrow
          by_cases hl1 : (came l seen j).length ≤ 1
          · go_wp2_with fail
            refine (sort1 A _ c _ hl1).mono ?_
            rintro e w4 ⟨rfl, rfl⟩
            clear hidx
            go_wp2_with fail
            refine ⟨⟨j + 1, upd f j (came l seen j), by omega, by go_num, Lib.hid ⟨⟨fun n hn hn2 => HQ.out.1.todo n (by omega) hn2, fun n hn hn2 => ?_⟩, HQ.out.2⟩⟩, by simp [intOf]; omega⟩
            by_cases e : n = j
            · subst e
              rw [upd_at]
              exact ⟨A, _, c, HV.out, HRJ.out, List.Perm.refl _⟩
            · rw [upd_ne _ _ e]
              exact HQ.out.1.done n (by omega) hn2
          · obtain ⟨s0, s1, hss⟩ : ∃ s0 s1, came l seen j = [s0, s1] := two_of hl1 hl2
            have hlen : (came l seen j).length = 2 := by rw [hss]; rfl
            obtain ⟨q, hA, hqg, cur, hcur⟩ : ∃ q, A = some ⟨q, 0, none⟩ ∧ w.heap.size + 1 + 1 ≤ q ∧ ∃ cur, wr.heap[q]? = some (.cells cur 9 (0, 0)) := by
              rcases HOJ.out.2 with ⟨_, hn⟩ | ⟨g, cap, cur, hs, hge, hgg, _⟩
              · rw [hlen] at hn; cases hn
              · injection hs with h1 _ _; exact ⟨g, h1, hge, cur, hgg⟩
            subst hA
            have HRJ2 := HRJ
            rw [hss] at HRJ2
            have HCAP : Hid (2 ≤ c) := Lib.hid HRJ2.out.cap
            have HSO := Lib.hid (sort2 q 0 c s0 s1 wr (HRJ2.out.cell 0 (Nat.zero_lt_succ 1)) (HRJ2.out.cell 1 (Nat.lt_succ_self 1)) (frozen_of_row _ _ _ _ _ hcur) (frozen_of_row _ _ _ _ _ hcur))
            have HSS := Lib.hid hss
            rw [hlen] at hidx HV
            clear hss hlen hl1 hl2 hcur HRJ HRJ2 HOJ cur
            go_wp2_with fail
            refine HSO.out.mono ?_
            rintro e w4 ⟨rfl, hbt, hor⟩
            have HBT := Lib.hid hbt; have HOR := Lib.hid hor
            clear hidx hbt hor
            go_wp2_with fail
            have hoth : ∀ n, n < 200 → n ≠ j → ∀ k, (v n).ownBlock = some k → k ≠ q := fun n hn hne k hk e => HAP.out n j hn hlt hne k hk (by rw [HV.out, e]; rfl)
            have hbl := HBT.out
            have hrow : ∃ f2, Row w4 (some ⟨q, 0, none⟩) 2 c 1 (strsV f2) ∧ f2.Perm (came l seen j) := by
              rw [HSS.out]
              rcases HOR.out with ⟨h0, h1⟩ | ⟨h0, h1⟩
              · exact ⟨[s0, s1], row_two HCAP.out h0 h1, List.Perm.refl _⟩
              · exact ⟨[s1, s0], row_two HCAP.out h0 h1, List.Perm.swap _ _ _⟩
            obtain ⟨f2, hr2, hp2⟩ := hrow
            refine ⟨⟨j + 1, upd f j f2, by omega, by go_num, Lib.hid ⟨⟨fun n hn hn2 => own_keep1 (HQ.out.1.todo n (by omega) hn2) fun k hk => hbl.block k (World.ownsRow.lt (HQ.out.1.todo n (by omega) hn2) k hk).2 (hoth n hn2 (by omega) k hk), fun n hn hn2 => ?_⟩, (hbl.block _ (by have h := (Array.getElem?_eq_some_iff.1 HQ.out.2.1).1; exact h) (by omega)).trans HQ.out.2.1, HQ.out.2.2.1.trans (hbl.below (by omega) HQ.out.2.2.1.size), (hbl.block _ (by have h := (Array.getElem?_eq_some_iff.1 HQ.out.2.2.2).1; exact h) (by omega)).trans HQ.out.2.2.2⟩⟩, by simp [intOf]; omega⟩
            by_cases e : n = j
            · subst e
              rw [upd_at]
              exact ⟨_, _, c, HV.out, hr2, hp2⟩
            · rw [upd_ne _ _ e]
              obtain ⟨A', k', c', e', hr', hp'⟩ := HQ.out.1.done n (by omega) hn2
              refine ⟨A', k', c', e', hr'.keep fun ad hA _ hl => hbl.block _ hl (hoth n hn2 e _ ?_), hp'⟩
              rw [e', hA]; rfl
        · have hj2 : j = 200 := by omega
          subst hj2
          go_wp2_with (first | (refine wpList_load_row rfl 132 (.tmp 3) rfl (w.heap.size + 1) rfl 132 cs (0, 0) _ HQ.out.2.1 Tryz.underlying132 rfl HSZ.out ?_) | (refine wpList_store_row rfl 132 (.tmp 2) (.tmp 32) rfl w.heap.size cs rfl rfl 132 _ HQ.out.2.2.2 HSZ.out HZC.out HC1.out ?_))
          refine bodyPost_ret (v := .agg cs) (results_cell_row rfl _ _ w.heap.size 132 cs (0, 0) _ rfl (setRow_heap _ _ _ _ _ _ HQ.out.2.2.2) Tryz.underlying132 rfl HSZ.out) rfl ?_
          refine ⟨v, f, by rw [HCV.out], below_setRow HQ.out.2.2.1 (Nat.le_refl _) _, fun n hn => ?_⟩
          obtain ⟨A', k', c', e', hr', hp'⟩ := HQ.out.1.done n hn hn
          refine ⟨A', k', c', e', hr'.keep fun ad hA _ _ => setRow_other _ _ _ _ ?_, hp'.trans (HPE.out n), fun ad hA => ?_⟩
          · have h := HLO.out n hn ad.block (by rw [e', hA]; rfl)
            omega
          · have h := HLO.out n hn ad.block (by rw [e', hA]; rfl)
            omega
    · have HLE : Hid (leftW w1 (w.heap.size + 1 + 1) b < leftW wr (w.heap.size + 1 + 1) b) := Lib.hid (by
        rw [leftW_eq hit (HQ.out.2.1.but hbut (by have := HBL.out; omega)), leftW_eq HQ.out.1 HQ.out.2.1]; exact hless)
      obtain ⟨s, hs, hps⟩ : ∃ s, l[j]? = some s ∧ pairS s = (k, val) := by
        rw [List.getElem?_map] at hj
        cases h : l[j]? with
        | none => rw [h] at hj; cases hj
        | some s => rw [h] at hj; exact ⟨s, rfl, by injection hj⟩
      have hgd : l.getD j noStm = s := by rw [List.getD_eq_getElem?_getD, hs]; rfl
      have hjl : j < l.length := (List.getElem?_eq_some_iff.1 hs).1
      have hnum := hg s (List.mem_of_getElem? hs)
      have hk : k = s.dig := (congrArg Prod.fst hps).symm
      have hv : val = stmV s none 0 0 none 0 0 := (congrArg Prod.snd hps).symm
      obtain ⟨N, hN⟩ : ∃ N : Nat, s.number = N := ⟨s.number.toNat, by omega⟩
      have hN2 : N < 200 := by omega
      have HCF : Hid (came l (seen.push j) = upd (came l seen) N (came l seen N ++ [s.dig])) := Lib.hid (by rw [came_fun l seen j N (by rw [hgd]; exact hN), hgd])
      have HM : Hid (MapAt w1 b (l.map pairS)) := Lib.hid (HQ.out.2.1.but hbut (by have := HBL.out; omega))
      have HIT : Hid (IterAt w1 (w.heap.size + 1 + 1) b (l.map pairS).length (seen.push j)) := Lib.hid hit
      have hen := run_pair (P := Tryz.prog) HIT.out HM.out hj
      have HB : Hid (Below w.heap.size w w1) := Lib.hid (HQ.out.2.2.2.1.trans (hbut.below (by omega) HQ.out.2.2.2.1.size))
      have HS : Hid (Slots w1 (w.heap.size + 1) v (came l seen)) := Lib.hid (HQ.out.2.2.1.keep2 (hbut.block _ HQ.out.2.2.1.lt (by omega)) fun q hq p hp => hbut.block p (World.ownsRow.lt (HQ.out.2.2.1.own q hq) p hp).2 (fun e => own_notIter (HQ.out.2.2.1.own q hq) HQ.out.1 (e ▸ hp)))
      have HX : Hid (w1.heap[w.heap.size]? = some (.cells Tryz.zeroCells132 132 (0, 0))) := Lib.hid ((hbut.block _ (by have h1 := HQ.out.2.2.1.lt; omega) (by omega)).trans HQ.out.2.2.2.2.1)
      have HSZ : Hid (seen.size ≤ 1000) := Lib.hid (by have h1 := HQ.out.2.2.2.2.2.1; omega)
      have HCO : Hid ((seen.push j).size + (leftOf (entsFrom (l.map pairS) 0).toArray (seen.push j)).size ≤ l.length ∧ (seen.push j).toList.Nodup ∧ ∀ q ∈ (seen.push j).toList, q < l.length) := Lib.hid (by
        refine ⟨by have h1 := HQ.out.2.2.2.2.2.1; rw [Array.size_push]; omega, ?_, ?_⟩
        · rw [Array.toList_push, List.nodup_append]
          refine ⟨HQ.out.2.2.2.2.2.2.1, by simp, fun x hx y hy e => ?_⟩
          have hy2 : y = j := by simpa using hy
          subst e; subst hy2
          have : seen.contains x = true := by rw [Array.contains_iff_mem]; simpa using hx
          rw [hns] at this; cases this
        · intro q hq
          rw [Array.toList_push, List.mem_append] at hq
          rcases hq with hq | hq
          · exact HQ.out.2.2.2.2.2.2.2 q hq
          · have : q = j := by simpa using hq
            omega)
      subst hk; subst hv
      clear hit hbut hless hns hj hs hps hgd hjl hnum HQ
      obtain ⟨a0, a1, a2, a3, a4, a5, a6, a7, a8, a9, a10, a11, a12⟩ := s
      simp only at hN HCF hen hnx
      subst hN
      unfold stmV at hen hnx
      simp only at hen hnx
      go_wp2_with fail
      clear hen hnx
      have HXS : Hid ((w1.alloc (.cells #[.int .i64 a0, .int .i64 (N : Int), .string a2, .int .i64 a3, .int .i64 a4, .int .i64 a5, .int .i64 a6, .int .i64 a7, .slice none 0 0, .slice none 0 0, .string a10, .int .i64 a11, .string a12] 30)).heap[w1.heap.size]? = some (.cells #[.int .i64 a0, .int .i64 (N : Int), .string a2, .int .i64 a3, .int .i64 a4, .int .i64 a5, .int .i64 a6, .int .i64 a7, .slice none 0 0, .slice none 0 0, .string a10, .int .i64 a11, .string a12] 30 (0, 0))) := Lib.hid (heap_alloc_new w1 (.cells #[.int .i64 a0, .int .i64 (N : Int), .string a2, .int .i64 a3, .int .i64 a4, .int .i64 a5, .int .i64 a6, .int .i64 a7, .slice none 0 0, .slice none 0 0, .string a10, .int .i64 a11, .string a12] 30))
      have HLT : Hid (w1.heap.size < (w1.alloc (.cells #[.int .i64 a0, .int .i64 (N : Int), .string a2, .int .i64 a3, .int .i64 a4, .int .i64 a5, .int .i64 a6, .int .i64 a7, .slice none 0 0, .slice none 0 0, .string a10, .int .i64 a11, .string a12] 30)).heap.size) := Lib.hid (by simp)
      have HSB : Hid (w.heap.size + 1 + 1 < w1.heap.size) := Lib.hid HIT.out.lt
      have HIT0 := HIT; have HM0 := HM
      replace HM := Lib.hid (HM.out.later (one_new w1 (.cells #[.int .i64 a0, .int .i64 (N : Int), .string a2, .int .i64 a3, .int .i64 a4, .int .i64 a5, .int .i64 a6, .int .i64 a7, .slice none 0 0, .slice none 0 0, .string a10, .int .i64 a11, .string a12] 30))); replace HIT := Lib.hid (HIT.out.later (one_new w1 (.cells #[.int .i64 a0, .int .i64 (N : Int), .string a2, .int .i64 a3, .int .i64 a4, .int .i64 a5, .int .i64 a6, .int .i64 a7, .slice none 0 0, .slice none 0 0, .string a10, .int .i64 a11, .string a12] 30))); replace HS := Lib.hid (HS.out.later (one_new w1 (.cells #[.int .i64 a0, .int .i64 (N : Int), .string a2, .int .i64 a3, .int .i64 a4, .int .i64 a5, .int .i64 a6, .int .i64 a7, .slice none 0 0, .slice none 0 0, .string a10, .int .i64 a11, .string a12] 30))); replace HX := Lib.hid (((one_new w1 (.cells #[.int .i64 a0, .int .i64 (N : Int), .string a2, .int .i64 a3, .int .i64 a4, .int .i64 a5, .int .i64 a6, .int .i64 a7, .slice none 0 0, .slice none 0 0, .string a10, .int .i64 a11, .string a12] 30)).block _ (by have h := HSB.out; omega)).trans HX.out)
      replace HB := Lib.hid (HB.out.trans ((one_new w1 (.cells #[.int .i64 a0, .int .i64 (N : Int), .string a2, .int .i64 a3, .int .i64 a4, .int .i64 a5, .int .i64 a6, .int .i64 a7, .slice none 0 0, .slice none 0 0, .string a10, .int .i64 a11, .string a12] 30)).mono HB.out.size))
      have HITW : Hid (IterAt w1 (w.heap.size + 1 + 1) b (l.map pairS).length (seen.push j)) := HIT0
      have HMW : Hid (MapAt w1 b (l.map pairS)) := HM0
      generalize w1.alloc (.cells #[.int .i64 a0, .int .i64 (N : Int), .string a2, .int .i64 a3, .int .i64 a4, .int .i64 a5, .int .i64 a6, .int .i64 a7, .slice none 0 0, .slice none 0 0, .string a10, .int .i64 a11, .string a12] 30) = y0 at HM HIT HS HX HB HXS HLT ⊢
      refine wp_region_flow (by kernel_rfl) (fun a b => b.heap[w1.heap.size]? = a.heap[w1.heap.size]?) ?_
      have hdr : y0.drew.heap = y0.heap := rfl
      replace HM := Lib.hid (HM.out.later (Later.drew y0)); replace HIT := Lib.hid (HIT.out.later (Later.drew y0)); replace HS := Lib.hid (HS.out.later (Later.drew y0)); replace HX : Hid (y0.drew.heap[w.heap.size]? = _) := HX; replace HB := Lib.hid HB.out.drew; replace HXS : Hid (y0.drew.heap[w1.heap.size]? = _) := HXS; replace HLT : Hid (w1.heap.size < y0.drew.heap.size) := HLT
      clear hdr
      generalize y0.drew = z0 at HM HIT HS HX HB HXS HLT ⊢
      obtain ⟨hf0, hf1, hf2, hf3, hf4, hf5, hf6, hf7, hf8, hf9, hf10, hf11, hf12⟩ := stm_futs (F := (fun a b => b.heap[w1.heap.size]? = a.heap[w1.heap.size]?)) (fun _ => rfl) (A := none) (n := 0) (c := 0) (B := none) (m := 0) (k := 0) (s := ⟨a0, (N : Int), a2, a3, a4, a5, a6, a7, a8, a9, a10, a11, a12⟩) (W := z0) (fun w' h => h) HXS.out
      refine flow_reads (F := (fun a b => b.heap[w1.heap.size]? = a.heap[w1.heap.size]?)) (fun _ => rfl) (by kernel_rfl) [0, 1, 2, 3, 4, 6] (fuel := 5) (by kernel_rfl) ?_
      simp only [List.map_cons, List.map_nil, pick, List.getD_cons_zero, List.getD_cons_succ]
      repeat (go_big_quiet_step (fail))
      refine wpQuiet_nil ?_
      clear hf0 hf1 hf2 hf3 hf4 hf5 hf6 hf7 hf8 hf9 hf10 hf11 hf12
      refine flow_two (F := (fun a b => b.heap[w1.heap.size]? = a.heap[w1.heap.size]?)) (fun _ _ _ h k => k.trans h) (fun _ => rfl) 5 7 (by kernel_rfl) (by decide) (by decide) ?_ ?_ <;> simp only [pick, List.getD_cons_zero, List.getD_cons_succ]
      · have hcv : z0.cell? ⟨w.heap.size + 1, N, none⟩ = some (v N) := HS.out.cell N hN2
        go_wp2_with fail
        clear hcv
        refine pieceEnd_normal ⟨rfl, ?_⟩
        refine flow_one (F := (fun a b => b.heap[w1.heap.size]? = a.heap[w1.heap.size]?)) (fun _ _ _ h k => k.trans h) (fun _ => rfl) 7 (by kernel_rfl) (by decide) ?_
        simp only [pick, List.getD_cons_zero, List.getD_cons_succ]
        go_wp2_with fail
        refine pieceEnd_normal ⟨(one_new z0 (.cells #[.string a12] 9)).block _ HLT.out, ?_⟩
        refine flow_one (F := (fun a b => b.heap[w1.heap.size]? = a.heap[w1.heap.size]?)) (fun _ _ _ h k => k.trans h) (fun _ => rfl) 8 (by kernel_rfl) (by decide) ?_
        simp only [pick, List.getD_cons_zero, List.getD_cons_succ]
        go_wp2_with (at_builtin; go_must (refine wpList_app_newK z0 rfl (.tmp 20) (.tmp 22) 131 9 rfl (w.heap.size + 1 + 1) Tryz.underlying131 str_info rfl (v N) _ _ (HS.out.own N hN2) rfl 1 #[.string a12] rfl (by simp [Value.oneCell']) rfl rfl (by have h1 := came_len l seen N; have h2 := HSZ.out; unfold maxLen; omega) (by have h1 := came_len l seen N; have h2 := HSZ.out; omega) (by have h1 := HS.out.lt; omega) ?_); intro x3 z3 ho hb hk1 hk2; obtain ⟨A3, c3, hv3, hr3⟩ := Row.of_own ho; subst hv3)
        have hs5 : z3.heap[w1.heap.size]? = z0.heap[w1.heap.size]? := hk1 _ HLT.out (own_block1 (HS.out.own N hN2) HXS.out (by decide))
        have hgz : z3.heap[w.heap.size + 1]? = z0.heap[w.heap.size + 1]? := hb.block _ (Nat.lt_succ_self _)
        have HIT3 : Hid (IterAt z3 (w.heap.size + 1 + 1) b (l.map pairS).length (seen.push j)) := Lib.hid ((hk1 _ HIT.out.lt (own_notIter (HS.out.own N hN2) HIT.out)).trans HIT.out)
        have HM3 : Hid (MapAt z3 b (l.map pairS)) := Lib.hid ((hb.block b (by have h := HBL.out; omega)).trans HM.out)
        have HX3 : Hid (z3.heap[w.heap.size]? = some (.cells Tryz.zeroCells132 132 (0, 0))) := Lib.hid ((hb.block _ (by omega)).trans HX.out)
        have HB3 : Hid (Below w.heap.size w z3) := Lib.hid (HB.out.trans (hb.mono (by omega)))
        have HS3 := Lib.hid (HS.out.put N hN2 hb hk1 (x := .slice A3 ((came l seen N).length + 1) c3) (l := came l seen N ++ [a12]) (by unfold TOwn; rw [strsV_app, List.length_append]; exact ho) hk2)
        have hfz : z3.frozen? ⟨w.heap.size + 1, N, none⟩ = false := frozen_of_row _ _ _ _ _ (hgz.trans HS.out.here)
        have hcz : z3.cell? ⟨w.heap.size + 1, N, none⟩ = some (v N) := by rw [cell_of_row _ _ _ _ _ _ (hgz.trans HS.out.here)]; exact slots_cell v N hN2
        have HGZ := Lib.hid hgz
        refine pieceEnd_normal ⟨hs5.trans ((one_new z0 (.cells #[.string a12] 9)).block _ HLT.out).symm, ?_⟩
        clear hs5 hb hk1 hk2 ho hr3 hgz
        refine flow_one (F := (fun a b => b.heap[w1.heap.size]? = a.heap[w1.heap.size]?)) (fun _ _ _ h k => k.trans h) (fun _ => rfl) 9 (by kernel_rfl) (by decide) ?_
        simp only [pick, List.getD_cons_zero, List.getD_cons_succ]
        go_wp2_with fail
        refine pieceEnd_normal ⟨rfl, ?_⟩
        refine flow_one (F := (fun a b => b.heap[w1.heap.size]? = a.heap[w1.heap.size]?)) (fun _ _ _ h k => k.trans h) (fun _ => rfl) 10 (by kernel_rfl) (by decide) ?_
        simp only [pick, List.getD_cons_zero, List.getD_cons_succ]
        go_wp2_with fail
        clear hfz hcz
        refine pieceEnd_normal ⟨Below.heap_setCell _ _ _ _ (by have h := HSB.out; show w1.heap.size ≠ w.heap.size + 1; omega), ?_⟩
        refine flow_done (by kernel_rfl) ?_
        have hb4 : Below (w.heap.size + 1) z3 (z3.setCell ⟨w.heap.size + 1, N, none⟩ (.slice A3 ((came l seen N).length + 1) c3)) := Below.setCell (p := ⟨w.heap.size + 1, N, none⟩) (Below.refl _ _) (Nat.le_refl _) _
        have HIT4 : Hid (IterAt (z3.setCell ⟨w.heap.size + 1, N, none⟩ (.slice A3 ((came l seen N).length + 1) c3)) (w.heap.size + 1 + 1) b (l.map pairS).length (seen.push j)) := Lib.hid ((Below.heap_setCell _ _ _ _ (by show w.heap.size + 1 + 1 ≠ w.heap.size + 1; omega)).trans HIT3.out)
        have HM4 : Hid (MapAt (z3.setCell ⟨w.heap.size + 1, N, none⟩ (.slice A3 ((came l seen N).length + 1) c3)) b (l.map pairS)) := Lib.hid ((hb4.block b (by have h := HBL.out; omega)).trans HM3.out)
        have HX4 : Hid ((z3.setCell ⟨w.heap.size + 1, N, none⟩ (.slice A3 ((came l seen N).length + 1) c3)).heap[w.heap.size]? = some (.cells Tryz.zeroCells132 132 (0, 0))) := Lib.hid ((hb4.block _ (by omega)).trans HX3.out)
        have HB4 := Lib.hid (HB3.out.trans (hb4.mono (by omega)))
        have HLE4 : Hid (leftW (z3.setCell ⟨w.heap.size + 1, N, none⟩ (.slice A3 ((came l seen N).length + 1) c3)) (w.heap.size + 1 + 1) b < leftW wr (w.heap.size + 1 + 1) b) := Lib.hid (by
          rw [leftW_eq HIT4.out HM4.out, ← leftW_eq HITW.out HMW.out]; exact HLE.out)
        clear hb4
        go_wp2_with fail
        refine ⟨⟨seen.push j, upd v N (.slice A3 ((came l seen N).length + 1) c3), Lib.hid ⟨HIT4.out, HM4.out, by rw [HCF.out]; exact HS3.out, HB4.out, HX4.out, HCO.out⟩⟩, HLE4.out⟩
      · go_wp2_with fail
        refine pieceEnd_normal ⟨(one_new z0 (.cells #[.string a12] 9)).block _ HLT.out, ?_⟩
        refine flow_one (F := (fun a b => b.heap[w1.heap.size]? = a.heap[w1.heap.size]?)) (fun _ _ _ h k => k.trans h) (fun _ => rfl) 5 (by kernel_rfl) (by decide) ?_
        simp only [pick, List.getD_cons_zero, List.getD_cons_succ]
        have hcv : (z0.alloc (.cells #[.string a12] 9)).cell? ⟨w.heap.size + 1, N, none⟩ = some (v N) := (HS.out.later (one_new z0 (.cells #[.string a12] 9))).cell N hN2
        go_wp2_with fail
        clear hcv
        refine pieceEnd_normal ⟨rfl, ?_⟩
        refine flow_one (F := (fun a b => b.heap[w1.heap.size]? = a.heap[w1.heap.size]?)) (fun _ _ _ h k => k.trans h) (fun _ => rfl) 8 (by kernel_rfl) (by decide) ?_
        simp only [pick, List.getD_cons_zero, List.getD_cons_succ]
        go_wp2_with (at_builtin; go_must (refine wpList_app_newK z0 rfl (.tmp 20) (.tmp 22) 131 9 rfl (w.heap.size + 1 + 1) Tryz.underlying131 str_info rfl (v N) _ _ (HS.out.own N hN2) rfl 1 #[.string a12] rfl (by simp [Value.oneCell']) rfl rfl (by have h1 := came_len l seen N; have h2 := HSZ.out; unfold maxLen; omega) (by have h1 := came_len l seen N; have h2 := HSZ.out; omega) (by have h1 := HS.out.lt; omega) ?_); intro x3 z3 ho hb hk1 hk2; obtain ⟨A3, c3, hv3, hr3⟩ := Row.of_own ho; subst hv3)
        have hs5 : z3.heap[w1.heap.size]? = z0.heap[w1.heap.size]? := hk1 _ HLT.out (own_block1 (HS.out.own N hN2) HXS.out (by decide))
        have hgz : z3.heap[w.heap.size + 1]? = z0.heap[w.heap.size + 1]? := hb.block _ (Nat.lt_succ_self _)
        have HIT3 : Hid (IterAt z3 (w.heap.size + 1 + 1) b (l.map pairS).length (seen.push j)) := Lib.hid ((hk1 _ HIT.out.lt (own_notIter (HS.out.own N hN2) HIT.out)).trans HIT.out)
        have HM3 : Hid (MapAt z3 b (l.map pairS)) := Lib.hid ((hb.block b (by have h := HBL.out; omega)).trans HM.out)
        have HX3 : Hid (z3.heap[w.heap.size]? = some (.cells Tryz.zeroCells132 132 (0, 0))) := Lib.hid ((hb.block _ (by omega)).trans HX.out)
        have HB3 : Hid (Below w.heap.size w z3) := Lib.hid (HB.out.trans (hb.mono (by omega)))
        have HS3 := Lib.hid (HS.out.put N hN2 hb hk1 (x := .slice A3 ((came l seen N).length + 1) c3) (l := came l seen N ++ [a12]) (by unfold TOwn; rw [strsV_app, List.length_append]; exact ho) hk2)
        have hfz : z3.frozen? ⟨w.heap.size + 1, N, none⟩ = false := frozen_of_row _ _ _ _ _ (hgz.trans HS.out.here)
        have hcz : z3.cell? ⟨w.heap.size + 1, N, none⟩ = some (v N) := by rw [cell_of_row _ _ _ _ _ _ (hgz.trans HS.out.here)]; exact slots_cell v N hN2
        have HGZ := Lib.hid hgz
        refine pieceEnd_normal ⟨hs5.trans ((one_new z0 (.cells #[.string a12] 9)).block _ HLT.out).symm, ?_⟩
        clear hs5 hb hk1 hk2 ho hr3 hgz
        refine flow_one (F := (fun a b => b.heap[w1.heap.size]? = a.heap[w1.heap.size]?)) (fun _ _ _ h k => k.trans h) (fun _ => rfl) 9 (by kernel_rfl) (by decide) ?_
        simp only [pick, List.getD_cons_zero, List.getD_cons_succ]
        go_wp2_with fail
        refine pieceEnd_normal ⟨rfl, ?_⟩
        refine flow_one (F := (fun a b => b.heap[w1.heap.size]? = a.heap[w1.heap.size]?)) (fun _ _ _ h k => k.trans h) (fun _ => rfl) 10 (by kernel_rfl) (by decide) ?_
        simp only [pick, List.getD_cons_zero, List.getD_cons_succ]
        go_wp2_with fail
        clear hfz hcz
        refine pieceEnd_normal ⟨Below.heap_setCell _ _ _ _ (by have h := HSB.out; show w1.heap.size ≠ w.heap.size + 1; omega), ?_⟩
        refine flow_done (by kernel_rfl) ?_
        have hb4 : Below (w.heap.size + 1) z3 (z3.setCell ⟨w.heap.size + 1, N, none⟩ (.slice A3 ((came l seen N).length + 1) c3)) := Below.setCell (p := ⟨w.heap.size + 1, N, none⟩) (Below.refl _ _) (Nat.le_refl _) _
        have HIT4 : Hid (IterAt (z3.setCell ⟨w.heap.size + 1, N, none⟩ (.slice A3 ((came l seen N).length + 1) c3)) (w.heap.size + 1 + 1) b (l.map pairS).length (seen.push j)) := Lib.hid ((Below.heap_setCell _ _ _ _ (by show w.heap.size + 1 + 1 ≠ w.heap.size + 1; omega)).trans HIT3.out)
        have HM4 : Hid (MapAt (z3.setCell ⟨w.heap.size + 1, N, none⟩ (.slice A3 ((came l seen N).length + 1) c3)) b (l.map pairS)) := Lib.hid ((hb4.block b (by have h := HBL.out; omega)).trans HM3.out)
        have HX4 : Hid ((z3.setCell ⟨w.heap.size + 1, N, none⟩ (.slice A3 ((came l seen N).length + 1) c3)).heap[w.heap.size]? = some (.cells Tryz.zeroCells132 132 (0, 0))) := Lib.hid ((hb4.block _ (by omega)).trans HX3.out)
        have HB4 := Lib.hid (HB3.out.trans (hb4.mono (by omega)))
        have HLE4 : Hid (leftW (z3.setCell ⟨w.heap.size + 1, N, none⟩ (.slice A3 ((came l seen N).length + 1) c3)) (w.heap.size + 1 + 1) b < leftW wr (w.heap.size + 1 + 1) b) := Lib.hid (by
          rw [leftW_eq HIT4.out HM4.out, ← leftW_eq HITW.out HMW.out]; exact HLE.out)
        clear hb4
        go_wp2_with fail
        refine ⟨⟨seen.push j, upd v N (.slice A3 ((came l seen N).length + 1) c3), Lib.hid ⟨HIT4.out, HM4.out, by rw [HCF.out]; exact HS3.out, HB4.out, HX4.out, HCO.out⟩⟩, HLE4.out⟩
end Go.Proofs.YtnjilfdmplbalaaGreatDoor
/- The walk of chain's continues. -/
namespace Go.Proofs.YtnjilfdmplbalaaGreatDoor
open Go.RowKit
/-- A row of statements goes on with o. -/
def contB (l : List Stm) (o : Stm) : Bool := if l.length = 0 then true else decide ((l.getD (l.length - 1) noStm).kind ≠ 3) && (behindB (l.getD (l.length - 1) noStm) o && (o.prev.toList == (l.getD (l.length - 1) noStm).dig.toList))
set_option maxRecDepth 100000 in
set_option maxHeartbeats 4000000 in
theorem continues_any (A : Option Addr) (n c : Nat) (l : List Stm) (o : Stm) (w : World) (hl : SRow w A n c l) (hn : n ≤ 1000) (h2 : 0 ≤ o.number ∧ o.number ≤ 1000) :
    Calls Tryz.prog 126 #[.slice A n c, stmV o none 0 0 none 0 0] w (SaysL (.bool (contB l o)) w) := by
  have HLN := Lib.hid hl.len
  have hlc := hl.cap
  unfold contB
  rw [HLN.out]
  by_cases hz : n = 0
  · subst hz
    obtain ⟨y0, y1, y2, y3, y4, y5, y6, y7, y8, y9, y10, y11, y12⟩ := o
    unfold stmV
    have HB := Lib.hid (one_new w (.cells #[.int .i64 y0, .int .i64 y1, .string y2, .int .i64 y3, .int .i64 y4, .int .i64 y5, .int .i64 y6, .int .i64 y7, .slice none 0 0, .slice none 0 0, .string y10, .int .i64 y11, .string y12] 30))
    clear hl h2 HLN
    go_enter Tryz.func126, Tryz.ntmps126
    go_wp2_with fail
    go_ret
    exact ⟨by simp, HB.out⟩
  rw [if_neg hz]
  have HBH : Hid (∀ x, Calls Tryz.prog 128 #[stmV (l.getD (n - 1) noStm) none 0 0 none 0 0, stmV o none 0 0 none 0 0] x (SaysL (.bool (behindB (l.getD (n - 1) noStm) o)) x)) := Lib.hid fun x => isBehind_any _ none 0 0 none 0 0 o none 0 0 none 0 0 x h2
  generalize hbb : behindB (l.getD (n - 1) noStm) o = bb at HBH ⊢
  clear hbb
  obtain ⟨y0, y1, y2, y3, y4, y5, y6, y7, y8, y9, y10, y11, y12⟩ := o
  have hl1 := hl.later (one_new w (.cells #[.int .i64 y0, .int .i64 y1, .string y2, .int .i64 y3, .int .i64 y4, .int .i64 y5, .int .i64 y6, .int .i64 y7, .slice none 0 0, .slice none 0 0, .string y10, .int .i64 y11, .string y12] 30))
  have HB1 := Lib.hid (one_new w (.cells #[.int .i64 y0, .int .i64 y1, .string y2, .int .i64 y3, .int .i64 y4, .int .i64 y5, .int .i64 y6, .int .i64 y7, .slice none 0 0, .slice none 0 0, .string y10, .int .i64 y11, .string y12] 30))
  have hy := heap_alloc_new w (.cells #[.int .i64 y0, .int .i64 y1, .string y2, .int .i64 y3, .int .i64 y4, .int .i64 y5, .int .i64 y6, .int .i64 y7, .slice none 0 0, .slice none 0 0, .string y10, .int .i64 y11, .string y12] 30)
  have HLT : Hid (w.heap.size < (w.alloc (.cells #[.int .i64 y0, .int .i64 y1, .string y2, .int .i64 y3, .int .i64 y4, .int .i64 y5, .int .i64 y6, .int .i64 y7, .slice none 0 0, .slice none 0 0, .string y10, .int .i64 y11, .string y12] 30)).heap.size) := Lib.hid (by simp)
  obtain ⟨b, off, hA, h0, h1, h2', h3, h4, h5, h6, h7, h8, h9, h10, h11, h12⟩ := SRow.cells hl1 (n - 1) (by omega)
  subst hA
  generalize l.getD (n - 1) noStm = s at h0 h1 h2' h3 h4 h5 h6 h7 h8 h9 h10 h11 h12 HBH ⊢
  obtain ⟨author, number, prev, time, kind, a, b2, cc, list, pins, body, key, dig⟩ := s
  unfold stmV at HBH ⊢
  simp only at h0 h1 h2' h3 h4 h5 h6 h7 h8 h9 h10 h11 h12 HBH ⊢
  have HY := Lib.hid hy
  clear hl hl1 HLN h2 hy
  have HW2 : Hid (Below w.heap.size w ((w.alloc (.cells #[.int .i64 y0, .int .i64 y1, .string y2, .int .i64 y3, .int .i64 y4, .int .i64 y5, .int .i64 y6, .int .i64 y7, .slice none 0 0, .slice none 0 0, .string y10, .int .i64 y11, .string y12] 30)).alloc (.cells #[.int .i64 author, .int .i64 number, .string prev, .int .i64 time, .int .i64 kind, .int .i64 a, .int .i64 b2, .int .i64 cc, .slice none 0 0, .slice none 0 0, .string body, .int .i64 key, .string dig] 30))) := Lib.hid (HB1.out.trans ((one_new _ _).mono (Nat.le_of_lt HLT.out)))
  have HX : Hid (((w.alloc (.cells #[.int .i64 y0, .int .i64 y1, .string y2, .int .i64 y3, .int .i64 y4, .int .i64 y5, .int .i64 y6, .int .i64 y7, .slice none 0 0, .slice none 0 0, .string y10, .int .i64 y11, .string y12] 30)).alloc (.cells #[.int .i64 author, .int .i64 number, .string prev, .int .i64 time, .int .i64 kind, .int .i64 a, .int .i64 b2, .int .i64 cc, .slice none 0 0, .slice none 0 0, .string body, .int .i64 key, .string dig] 30)).heap[w.heap.size + 1]? = some (.cells #[.int .i64 author, .int .i64 number, .string prev, .int .i64 time, .int .i64 kind, .int .i64 a, .int .i64 b2, .int .i64 cc, .slice none 0 0, .slice none 0 0, .string body, .int .i64 key, .string dig] 30 (0, 0))) := Lib.hid (by
    have h := heap_alloc_new (w.alloc (.cells #[.int .i64 y0, .int .i64 y1, .string y2, .int .i64 y3, .int .i64 y4, .int .i64 y5, .int .i64 y6, .int .i64 y7, .slice none 0 0, .slice none 0 0, .string y10, .int .i64 y11, .string y12] 30)) (.cells #[.int .i64 author, .int .i64 number, .string prev, .int .i64 time, .int .i64 kind, .int .i64 a, .int .i64 b2, .int .i64 cc, .slice none 0 0, .slice none 0 0, .string body, .int .i64 key, .string dig] 30)
    rw [show (w.alloc (.cells #[.int .i64 y0, .int .i64 y1, .string y2, .int .i64 y3, .int .i64 y4, .int .i64 y5, .int .i64 y6, .int .i64 y7, .slice none 0 0, .slice none 0 0, .string y10, .int .i64 y11, .string y12] 30)).heap.size = w.heap.size + 1 by simp] at h
    exact h)
  replace HY : Hid (((w.alloc (.cells #[.int .i64 y0, .int .i64 y1, .string y2, .int .i64 y3, .int .i64 y4, .int .i64 y5, .int .i64 y6, .int .i64 y7, .slice none 0 0, .slice none 0 0, .string y10, .int .i64 y11, .string y12] 30)).alloc (.cells #[.int .i64 author, .int .i64 number, .string prev, .int .i64 time, .int .i64 kind, .int .i64 a, .int .i64 b2, .int .i64 cc, .slice none 0 0, .slice none 0 0, .string body, .int .i64 key, .string dig] 30)).heap[w.heap.size]? = some (.cells #[.int .i64 y0, .int .i64 y1, .string y2, .int .i64 y3, .int .i64 y4, .int .i64 y5, .int .i64 y6, .int .i64 y7, .slice none 0 0, .slice none 0 0, .string y10, .int .i64 y11, .string y12] 30 (0, 0))) := Lib.hid ((Below.heap_alloc _ _ _ HLT.out).trans HY.out)
  have HZ : Hid (w.heap.size + 1 < ((w.alloc (.cells #[.int .i64 y0, .int .i64 y1, .string y2, .int .i64 y3, .int .i64 y4, .int .i64 y5, .int .i64 y6, .int .i64 y7, .slice none 0 0, .slice none 0 0, .string y10, .int .i64 y11, .string y12] 30)).alloc (.cells #[.int .i64 author, .int .i64 number, .string prev, .int .i64 time, .int .i64 kind, .int .i64 a, .int .i64 b2, .int .i64 cc, .slice none 0 0, .slice none 0 0, .string body, .int .i64 key, .string dig] 30)).heap.size) := Lib.hid (by simp)
  by_cases hk : kind = 3
  · have g0 : (kind != 3) = false := by simpa using hk
    have HK := Lib.hid hk; clear hk
    go_enter Tryz.func126, Tryz.ntmps126
    go_wp2_with fail
    go_ret
    exact ⟨by simp [HK.out], HW2.out⟩
  have g0 : (kind != 3) = true := by simpa using hk
  have HK := Lib.hid hk; clear hk
  obtain ⟨hc0, hc1, hc2, hc3, hc4, hc5, hc6, hc7, hc8, hc9, hc10, hc11, hc12⟩ := stm_cells (A := none) (n := 0) (c := 0) (B := none) (m := 0) (k := 0) (s := ⟨author, number, prev, time, kind, a, b2, cc, list, pins, body, key, dig⟩) HX.out
  obtain ⟨hd0, hd1, hd2, hd3, hd4, hd5, hd6, hd7, hd8, hd9, hd10, hd11, hd12⟩ := stm_cells (A := none) (n := 0) (c := 0) (B := none) (m := 0) (k := 0) (s := ⟨y0, y1, y2, y3, y4, y5, y6, y7, y8, y9, y10, y11, y12⟩) HY.out
  go_enter Tryz.func126, Tryz.ntmps126
  go_wp2_with fail
  refine (HBH.out _).mono ?_
  rintro e w3 ⟨rfl, hb⟩
  have HE : Hid (Below w.heap.size w w3) := Lib.hid (HW2.out.trans (hb.mono HW2.out.size))
  have hx := (hb.block _ HZ.out).trans HX.out
  have hy := (hb.block _ (Nat.lt_of_succ_lt HZ.out)).trans HY.out
  clear h0 h1 h2' h3 h4 h5 h6 h7 h8 h9 h10 h11 h12 hc0 hc1 hc2 hc3 hc4 hc5 hc6 hc7 hc8 hc9 hc10 hc11 hc12 hd0 hd1 hd2 hd3 hd4 hd5 hd6 hd7 hd8 hd9 hd10 hd11 hd12 hb HX HY HZ HBH HW2 HB1 HLT
  obtain ⟨-, -, -, -, -, -, -, -, -, -, -, -, hc12⟩ := stm_cells (A := none) (n := 0) (c := 0) (B := none) (m := 0) (k := 0) (s := ⟨author, number, prev, time, kind, a, b2, cc, list, pins, body, key, dig⟩) hx
  obtain ⟨-, -, hd2, -, -, -, -, -, -, -, -, -, -⟩ := stm_cells (A := none) (n := 0) (c := 0) (B := none) (m := 0) (k := 0) (s := ⟨y0, y1, y2, y3, y4, y5, y6, y7, y8, y9, y10, y11, y12⟩) hy
  clear hx hy
  cases bb
  · go_wp2_with fail
    go_ret
    exact ⟨by simp [HK.out], HE.out⟩
  · go_wp2_with fail
    go_ret
    exact ⟨by simp [HK.out], HE.out⟩
end Go.Proofs.YtnjilfdmplbalaaGreatDoor
/- The walk of chain.find, over statements that all count. -/
namespace Go.Proofs.YtnjilfdmplbalaaGreatDoor
open Go.RowKit
set_option maxRecDepth 100000 in
set_option maxHeartbeats 2000000 in
theorem find_any (au : Int) (A : Option Addr) (n c : Nat) (l : List Stm) (w : World) (hl : SRow w A n c l) (hg : Good au l) (hn : n ≤ 1000) (hr : Rounds w) :
    Calls Tryz.prog 99 #[.int .i64 au, .slice A n c] w fun e w' => e = .returned (.map (some w.heap.size)) ∧ MapAt w' w.heap.size (l.map pairS) ∧ Below w.heap.size w w' := by
  have HL := Lib.hid hl; have HG := Lib.hid hg; have HLN := Lib.hid hl.len
  have HRR : Hid (∀ w', Below w.heap.size w w' → Rounds w') := Lib.hid fun w' h => hr.later h
  clear hl hg hr
  have hmk : ∀ w, (Instr.makeMap 110 none).run Tryz.prog w = .ok (.map (some w.heap.size)) (w.alloc (.map #[] 0)) := fun _ => by kernel_rfl
  go_enter Tryz.func99, Tryz.ntmps99
  go_wp2_with fail
  clear hmk
  go_loopw [11] (fun i wr => ∃ j : Nat, j ≤ n ∧ i = .int .i64 j ∧ Hid (MapAt wr w.heap.size ((l.take j).map pairS) ∧ Below w.heap.size w wr)) (fun i _ => n - (intOf i).toNat)
  case atStart => exact ⟨0, Nat.zero_le _, rfl, Lib.hid ⟨mapAt_new w, one_new w _⟩⟩
  case round =>
    obtain ⟨j, hj, rfl, HQ⟩ := hrel
    by_cases hlt : j < n
    · obtain ⟨b, off, hA, h0, h1, h2, h3, h4, h5, h6, h7, h8, h9, h10, h11, h12⟩ := SRow.cells (HL.out.later HQ.out.2) j hlt
      subst hA
      have hmem : l.getD j noStm ∈ l := by
        rw [List.getD_eq_getElem?_getD, List.getElem?_eq_getElem (by rw [HLN.out]; exact hlt)]
        exact List.getElem_mem _
      have HMM := Lib.hid hmem
      have HTK : Hid (l.take (j + 1) = l.take j ++ [l.getD j noStm]) := Lib.hid (by
        rw [List.take_add_one, List.getD_eq_getElem?_getD, List.getElem?_eq_getElem (by rw [HLN.out]; exact hlt)]; rfl)
      have HND : Hid (∀ p ∈ (l.take j).map pairS, p.1 ≠ (l.getD j noStm).dig) := Lib.hid (by
        intro p hp e
        have hd := HG.out.nodup
        have h2 : (l.take (j + 1)).map (·.dig) <+: l.map (·.dig) := (List.take_prefix _ _).map _
        have h3 := hd.sublist h2.sublist
        rw [HTK.out, List.map_append, List.nodup_append] at h3
        obtain ⟨q, hq, rfl⟩ := List.mem_map.1 hp
        exact h3.2.2 q.dig (List.mem_map_of_mem hq) (l.getD j noStm).dig (by simp) e)
      have HAU := Lib.hid (HG.out.author _ hmem); have HCK := Lib.hid (HG.out.check _ hmem); have HSE := Lib.hid (HG.out.sealed _ hmem); have HBA := Lib.hid (HG.out.bare _ hmem)
      clear hmem
      generalize l.getD j noStm = s at h0 h1 h2 h3 h4 h5 h6 h7 h8 h9 h10 h11 h12 HMM HTK HND HAU HCK HSE HBA
      have g0 : (s.author == au) = true := by simpa using HAU.out
      have HC1 : Hid (∀ x, Below w.heap.size w x → Calls Tryz.prog 41 #[stmV s none 0 0 none 0 0] x (SaysL (.int .i64 0) x)) := Lib.hid fun x h => by
        have := check_any s none 0 0 none 0 0 x (by rw [HBA.out.1]; exact Row.nilRow _ _) (by rw [HBA.out.2.1]; exact Row.nilRow _ _) (by omega) (by omega) (by have := HBA.out.2.2.1.body; omega)
        rw [HCK.out] at this; exact this
      have HC2 : Hid (∀ x, Below w.heap.size w x → Calls Tryz.prog 42 #[stmV s none 0 0 none 0 0] x (SaysL (.bool true) x)) := Lib.hid fun x h => by
        have := sealed_any s none 0 0 none 0 0 x (by rw [HBA.out.1]; exact Row.nilRow _ _) (by rw [HBA.out.2.1]; exact Row.nilRow _ _) HBA.out.2.2.1 (HRR.out x h)
        rw [HSE.out] at this; exact this
      unfold stmV at HC1 HC2
      go_wp2_with fail
      clear h0 h1 h2 h3 h4 h5 h6 h7 h8 h9 h10 h11 h12
      have hsz : w.heap.size < wr.heap.size := HQ.out.1.lt
      have HM : Hid (MapAt (wr.alloc (.cells #[.int .i64 s.author, .int .i64 s.number, .string s.prev, .int .i64 s.time, .int .i64 s.kind, .int .i64 s.a, .int .i64 s.b, .int .i64 s.c, .slice none 0 0, .slice none 0 0, .string s.body, .int .i64 s.key, .string s.dig] 30)) w.heap.size ((l.take j).map pairS)) := Lib.hid (HQ.out.1.later (one_new _ _))
      have HB := Lib.hid (HQ.out.2.trans ((one_new wr (.cells #[.int .i64 s.author, .int .i64 s.number, .string s.prev, .int .i64 s.time, .int .i64 s.kind, .int .i64 s.a, .int .i64 s.b, .int .i64 s.c, .slice none 0 0, .slice none 0 0, .string s.body, .int .i64 s.key, .string s.dig] 30)).mono HQ.out.2.size))
      have HX := Lib.hid (heap_alloc_new wr (.cells #[.int .i64 s.author, .int .i64 s.number, .string s.prev, .int .i64 s.time, .int .i64 s.kind, .int .i64 s.a, .int .i64 s.b, .int .i64 s.c, .slice none 0 0, .slice none 0 0, .string s.body, .int .i64 s.key, .string s.dig] 30))
      have HZ : Hid (wr.heap.size < (wr.alloc (.cells #[.int .i64 s.author, .int .i64 s.number, .string s.prev, .int .i64 s.time, .int .i64 s.kind, .int .i64 s.a, .int .i64 s.b, .int .i64 s.c, .slice none 0 0, .slice none 0 0, .string s.body, .int .i64 s.key, .string s.dig] 30)).heap.size) := Lib.hid (by simp)
      clear HQ
      generalize wr.alloc (.cells #[.int .i64 s.author, .int .i64 s.number, .string s.prev, .int .i64 s.time, .int .i64 s.kind, .int .i64 s.a, .int .i64 s.b, .int .i64 s.c, .slice none 0 0, .slice none 0 0, .string s.body, .int .i64 s.key, .string s.dig] 30) = y0 at HM HB HX HZ ⊢
      refine (HC1.out y0 HB.out).mono ?_
      clear HC1
      rintro e w1 ⟨rfl, hb⟩
      replace HX := Lib.hid ((hb.block _ HZ.out).trans HX.out); replace HM := Lib.hid (HM.out.later hb); replace HZ := Lib.hid (Nat.lt_of_lt_of_le HZ.out hb.size); replace HB := Lib.hid (HB.out.trans (hb.mono HB.out.size)); clear hb
      obtain ⟨hc0, hc1, hc2, hc3, hc4, hc5, hc6, hc7, hc8, hc9, hc10, hc11, hc12⟩ := stm_cells (A := none) (n := 0) (c := 0) (B := none) (m := 0) (k := 0) (s := s) HX.out
      go_wp2_with fail
      clear hc0 hc1 hc2 hc3 hc4 hc5 hc6 hc7 hc8 hc9 hc10 hc11 hc12
      refine (HC2.out w1 HB.out).mono ?_
      clear HC2
      rintro e w2 ⟨rfl, hb⟩
      replace HX := Lib.hid ((hb.block _ HZ.out).trans HX.out); replace HM := Lib.hid (HM.out.later hb); replace HB := Lib.hid (HB.out.trans (hb.mono HB.out.size)); clear hb HZ
      obtain ⟨hc0, hc1, hc2, hc3, hc4, hc5, hc6, hc7, hc8, hc9, hc10, hc11, hc12⟩ := stm_cells (A := none) (n := 0) (c := 0) (B := none) (m := 0) (k := 0) (s := s) HX.out
      obtain ⟨L, hL⟩ : ∃ L, L = (l.take j).map pairS := ⟨_, rfl⟩
      rw [← hL] at HM HND
      have HLL := Lib.hid hL; clear hL
      have hput := run_put (P := Tryz.prog) HM.out Tryz.underlying110 Tryz.underlying9 s.dig (.agg #[.int .i64 s.author, .int .i64 s.number, .string s.prev, .int .i64 s.time, .int .i64 s.kind, .int .i64 s.a, .int .i64 s.b, .int .i64 s.c, .slice none 0 0, .slice none 0 0, .string s.body, .int .i64 s.key, .string s.dig]) HND.out
      go_wp2_with fail
      refine ⟨⟨j + 1, hlt, by go_num, Lib.hid ⟨?_, HB.out.trans ((setBlock_but w2 w.heap.size _).below (Nat.le_refl _) HB.out.size)⟩⟩, by simp [intOf]; omega⟩
      rw [HTK.out, List.map_append, ← HLL.out]
      unfold MapAt
      rw [List.length_append]
      exact setBlock_at HM.out
    · have HE : Hid (j = n) := by unfold Hid; omega
      go_wp2
      go_ret
      have h := HQ.out.1
      rw [HE.out, List.take_of_length_le (by rw [HLN.out]; exact Nat.le_refl _)] at h
      exact ⟨rfl, h, HQ.out.2⟩
end Go.Proofs.YtnjilfdmplbalaaGreatDoor
/- The walk of chain.Counted. -/
namespace Go.Proofs.YtnjilfdmplbalaaGreatDoor
open Go.RowKit
def withNum (l : List Stm) (i : Nat) : List Stm := l.filter fun s => decide (s.number = (i : Int))
/-- The statement with number i goes on with the row. -/
def contNow (l row : List Stm) (i : Nat) : Bool := decide ((withNum l i).length = 1) && contB row ((withNum l i).headD noStm)
def countL (l : List Stm) : Nat → List Stm → Nat → List Stm
  | 0, row, _ => row
  | k + 1, row, i => if contNow l row i then countL l k (row ++ [(withNum l i).headD noStm]) (i + 1) else row
theorem countL_go (l row : List Stm) (j : Nat) (hj : j < 200) (h : contNow l row j = true) : countL l (200 - j) row j = countL l (200 - (j + 1)) (row ++ [(withNum l j).headD noStm]) (j + 1) := by
  rw [show 200 - j = (200 - (j + 1)) + 1 by omega, countL, if_pos h]
theorem countL_stop (l row : List Stm) (j : Nat) (hj : j < 200) (h : contNow l row j = false) : countL l (200 - j) row j = row := by
  rw [show 200 - j = (200 - (j + 1)) + 1 by omega, countL, if_neg (by rw [h]; decide)]
theorem one_of {α : Type} {z : List α} (h1 : z.length = 1) : ∃ a, z = [a] := by
  rcases z with _ | ⟨a, _ | ⟨b, r⟩⟩
  · simp at h1
  · exact ⟨a, rfl⟩
  · simp at h1
theorem split_dig {l : List Stm} (hd : (l.map (·.dig)).Nodup) {s : Stm} (hs : s ∈ l) : ∃ l1 l2, l.map pairS = l1 ++ (s.dig, stmV s none 0 0 none 0 0) :: l2 ∧ ∀ p ∈ l1, p.1 ≠ s.dig := by
  obtain ⟨a, b, rfl⟩ := List.append_of_mem hs
  refine ⟨a.map pairS, b.map pairS, by simp [pairS], fun p hp e => ?_⟩
  obtain ⟨q, hq, rfl⟩ := List.mem_map.1 hp
  rw [List.map_append, List.nodup_append] at hd
  exact hd.2.2 q.dig (List.mem_map_of_mem hq) s.dig (by simp) e
theorem own_lt {w : World} {B : Nat} {e : TypeId} {sz : Nat} {v : Value} {n : Nat} {xs : List Value} (h : w.ownsRow B e sz v n xs) : ∀ k, v.ownBlock = some k → k < w.heap.size := by
  intro k hk
  rcases h.2 with ⟨hn, _⟩ | ⟨a, cap, cur, rfl, ha, hgg, rest⟩
  · subst hn; cases hk
  · injection hk with hk
    subst hk
    exact (Array.getElem?_eq_some_iff.1 hgg).1
theorem stm_info : (Tryz.prog.info? 30).map (fun i => (i.zero, i.size, i.bytes)) = some (some (stmV noStm none 0 0 none 0 0), 13, 160) := by kernel_rfl
set_option maxRecDepth 100000 in
set_option maxHeartbeats 4000000 in
theorem counted_any (au : Int) (A : Option Addr) (n c : Nat) (l : List Stm) (w : World) (hl : SRow w A n c l) (hg : Good au l) (hn : n ≤ 1000) (hr : Rounds w) (h2 : ∀ n : Nat, (l.filter fun s => decide (s.number = (n : Int))).length ≤ 2) :
    Calls Tryz.prog 95 #[.int .i64 au, .slice A n c] w fun e w' => ∃ A2 m c2, e = .returned (.slice A2 m c2) ∧ SRow w' A2 m c2 (countL l 200 [] 0) ∧ Below w.heap.size w w' := by
  have HFI := Lib.hid (find_any au A n c l w hl hg hn hr)
  have HLN := Lib.hid hl.len; have HG := Lib.hid hg; have H2 := Lib.hid h2
  clear hl hg hr h2
  go_enter Tryz.func95, Tryz.ntmps95
  go_wp2_with fail
  refine HFI.out.mono ?_
  rintro e w1 ⟨rfl, hm, hb⟩
  have HM := Lib.hid hm; have HB := Lib.hid hb
  clear hm hb HFI
  go_wp2_with fail
  refine (byNumber_any w.heap.size l w1 HM.out (by rw [HLN.out]; exact hn) H2.out fun s hs => (HG.out.bare s hs).2.2.2).mono ?_
  rintro e w2 ⟨v, f, he, hb2, hrows⟩
  obtain ⟨cs, hcs⟩ : ∃ cs, cs = ((List.range 200).map v).toArray := ⟨_, rfl⟩
  rw [← hcs] at he
  subst he
  have HCS : Hid (∀ i, i < 200 → cs[i]? = some (v i)) := Lib.hid fun i hi => by rw [hcs]; exact slots_cell v i hi
  clear hcs
  have HR := Lib.hid hrows; have HB2 : Hid (Below w.heap.size w w2) := Lib.hid (HB.out.trans (hb2.mono HB.out.size)); have HM2 := Lib.hid (HM.out.later hb2)
  clear hrows hb2 HM HB
  go_wp2_with fail
  go_loopw [14, 6] (fun i x wr => ∃ (j m c : Nat) (A : Option Addr) (row : List Stm), j ≤ 200 ∧ m ≤ j ∧ i = .int .i64 j ∧ x = .slice A m c ∧ Hid (wr.ownsRow w2.heap.size 30 13 (.slice A m c) m (stmsC row) ∧ Below w2.heap.size w2 wr ∧ countL l 200 [] 0 = countL l (200 - j) row j)) (fun i _ _ => 200 - (intOf i).toNat)
  case atStart => exact ⟨0, 0, 0, none, [], by omega, by omega, rfl, rfl, Lib.hid ⟨World.ownsRow_nil _ _ _ _, Below.refl _ _, rfl⟩⟩
  case round =>
    obtain ⟨j, m, c3, A3, row, hj, hmj, rfl, rfl, HQ⟩ := hrel
    by_cases hlt : j < 200
    · obtain ⟨A4, k4, c4, hv4, hr4, hp4, -⟩ := HR.out j hlt
      have hidx := run_idx cs j hlt (.slice A4 k4 c4) (by rw [HCS.out j hlt, hv4])
      have HR4 := Lib.hid (hr4.later HQ.out.2.1); have HP4 := Lib.hid hp4
      have HK4 : Hid (k4 = (withNum l j).length) := Lib.hid (by
        have h1 := hr4.len
        rw [strsV, List.length_map, hp4.length_eq, List.length_map, Nat.mul_one] at h1
        exact h1.symm)
      clear hv4 hr4 hp4
      by_cases hk : k4 = 1
      · subst hk
        obtain ⟨s, hs⟩ := one_of HK4.out.symm
        have hsm : s ∈ l := (List.mem_filter.1 (by rw [show (l.filter fun s => decide (s.number = (j : Int))) = [s] from hs]; exact List.mem_singleton_self s : s ∈ l.filter fun s => decide (s.number = (j : Int)))).1
        have hfd : f j = [s.dig] := by
          have h := HP4.out
          rw [show (l.filter fun s => decide (s.number = (j : Int))) = [s] from hs] at h
          exact List.perm_singleton.1 h
        obtain ⟨b4, off4, hA4, -⟩ := Row.form HR4.out (by omega)
        subst hA4
        have hcell : ∀ x, Later wr x → x.cell? ⟨b4, off4, none⟩ = some (.string s.dig) := fun x h => by
          have h3 := (HR4.out.later h).cell 0 (by omega)
          rw [hfd] at h3
          simpa [strsV] using h3
        obtain ⟨l1, l2, hl12, hne⟩ := split_dig HG.out.nodup hsm
        have hlook : ∀ x, Later wr x → (Instr.lookup 110 (.map (some w.heap.size)) (.string s.dig) false).run Tryz.prog x = .ok (stmV s none 0 0 none 0 0) x := fun x h =>
          run_has (P := Tryz.prog) (by have h3 := (HM2.out.later HQ.out.2.1).later h; rw [hl12] at h3; exact h3) Tryz.underlying110 Tryz.underlying9 hne
        have HCE := Lib.hid hcell; have HLO := Lib.hid hlook
        have hc0 : contNow l row j = contB row s := by unfold contNow; rw [hs]; simp
        have hgo : countL l (200 - j) row j = if contB row s then countL l (200 - (j + 1)) (row ++ [s]) (j + 1) else row := by
          cases hcb : contB row s
          · rw [countL_stop l row j hlt (hc0.trans hcb)]; rfl
          · rw [countL_go l row j hlt (hc0.trans hcb), hs]; rfl
        have HGO := Lib.hid hgo
        have hnum := (HG.out.bare s hsm).2.2.2
        have hrow : SRow wr A3 m c3 row := by
          obtain ⟨A5, c5, e5, hr5⟩ := Row.of_own HQ.out.1
          injection e5 with e6 e7 e8
          subst e6 e8
          exact hr5
        have HCT := Lib.hid (continues_any A3 m c3 row s wr hrow (by omega) ⟨hnum.1, by omega⟩)
        have HRW := Lib.hid hrow
        have hce := hcell wr (Below.refl _ _); have hlk := hlook wr (Below.refl _ _)
        clear hcell hlook hs hsm hfd hl12 hne hc0 hgo hnum hrow HK4 HP4
        unfold stmV at hlk HCT
        go_wp2_with fail
        refine HCT.out.mono ?_
        rintro e w3 ⟨rfl, hb3⟩
        have HB3 := Lib.hid hb3
        clear hce hlk hb3 HCT
        cases hcb : contB row s
        · rw [hcb] at HGO
          go_wp2_with fail
          go_ret
          refine ⟨A3, m, c3, rfl, ?_, HB2.out.trans ((HQ.out.2.1.trans (HB3.out.mono HQ.out.2.1.size)).mono HB2.out.size)⟩
          rw [HQ.out.2.2, HGO.out]
          exact HRW.out.later HB3.out
        · rw [hcb] at HGO
          have hce := HCE.out w3 HB3.out; have hlk := HLO.out w3 HB3.out
          have HOW : Hid (w3.ownsRow w2.heap.size 30 13 (.slice A3 m c3) m (stmsC row)) := Lib.hid (own_below HQ.out.1 HB3.out (own_lt HQ.out.1))
          unfold stmV at hlk
          go_wp2_with (at_builtin; go_must (refine wpList_app_newK w3 rfl (.tmp 30) (.tmp 36) 22 30 rfl w2.heap.size Tryz.underlying22 stm_info rfl _ m (stmsC row) HOW.out rfl 1 #[.int .i64 s.author, .int .i64 s.number, .string s.prev, .int .i64 s.time, .int .i64 s.kind, .int .i64 s.a, .int .i64 s.b, .int .i64 s.c, .slice none 0 0, .slice none 0 0, .string s.body, .int .i64 s.key, .string s.dig] rfl (by simp [Value.oneCell']) rfl rfl (by unfold maxLen; omega) (by omega) (by have h1 := HQ.out.2.1.size; have h2 := HB3.out.size; omega) ?_); intro x3 z3 ho hb hk1 hk2; obtain ⟨A6, c6, hv6, hr6⟩ := Row.of_own ho; subst hv6; have HO3 := Lib.hid ho)
          refine ⟨⟨j + 1, m + 1, c6, A6, row ++ [s], by omega, by omega, by go_num, rfl, Lib.hid ⟨?_, HQ.out.2.1.trans ((HB3.out.mono HQ.out.2.1.size).trans hb), ?_⟩⟩, by simp [intOf]; omega⟩
          · rw [stmsC_app, stmsC_single]; exact HO3.out
          · rw [HQ.out.2.2, HGO.out, if_pos (by first | trivial | rfl)]
      · have hk2 : ((k4 : Int) != 1) = true := by simpa using (by omega : ¬ (k4 : Int) = 1)
        go_wp2_with fail
        go_ret
        obtain ⟨A5, c5, e5, hr5⟩ := Row.of_own HQ.out.1
        injection e5 with e6 e7 e8
        subst e6 e8
        refine ⟨A3, m, c3, rfl, ?_, HB2.out.trans (HQ.out.2.1.mono HB2.out.size)⟩
        rw [HQ.out.2.2, countL_stop l row j hlt (by unfold contNow; rw [decide_eq_false (by have := HK4.out; omega)]; rfl)]
        exact hr5
    · have hj2 : j = 200 := by omega
      subst hj2
      go_wp2_with fail
      go_ret
      obtain ⟨A5, c5, e5, hr5⟩ := Row.of_own HQ.out.1
      injection e5 with e6 e7 e8
      subst e6 e8
      refine ⟨A3, m, c3, rfl, ?_, HB2.out.trans (HQ.out.2.1.mono HB2.out.size)⟩
      rw [HQ.out.2.2]
      exact hr5
end Go.Proofs.YtnjilfdmplbalaaGreatDoor
