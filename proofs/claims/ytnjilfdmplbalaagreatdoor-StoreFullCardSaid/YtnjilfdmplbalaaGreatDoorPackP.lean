import Derived.Test.YtnjilfdmplbalaaGreatDoorPackV
import Derived.Test.YtnjilfdmplbalaaGreatDoorPackF
import Derived.Test.YtnjilfdmplbalaaGreatDoorPackN
/- The walks of store's pick (by an author), Of, row, Height. -/
namespace Go.Proofs.YtnjilfdmplbalaaGreatDoor
open Go.RowKit
set_option maxRecDepth 100000 in
set_option maxHeartbeats 2000000 in
theorem ofOne_any (x : Stm) (B : Nat) (au : Int) (W : World) (hB : B < W.heap.size) (hc : W.cell? ⟨B, 0, none⟩ = some (.int .i64 au)) :
    Calls Tryz.prog 68 #[stmV x none 0 0 none 0 0, .pointer (some ⟨B, 0, none⟩)] W (SaysL (.bool (decide (x.author = au))) W) := by
  unfold stmV
  have HB := Lib.hid (one_new W (.cells #[.int .i64 x.author, .int .i64 x.number, .string x.prev, .int .i64 x.time, .int .i64 x.kind, .int .i64 x.a, .int .i64 x.b, .int .i64 x.c, .slice none 0 0, .slice none 0 0, .string x.body, .int .i64 x.key, .string x.dig] 30))
  have hx := heap_alloc_new W (.cells #[.int .i64 x.author, .int .i64 x.number, .string x.prev, .int .i64 x.time, .int .i64 x.kind, .int .i64 x.a, .int .i64 x.b, .int .i64 x.c, .slice none 0 0, .slice none 0 0, .string x.body, .int .i64 x.key, .string x.dig] 30)
  obtain ⟨hc0, hc1, hc2, hc3, hc4, hc5, hc6, hc7, hc8, hc9, hc10, hc11, hc12⟩ := stm_cells (A := none) (n := 0) (c := 0) (B := none) (m := 0) (k := 0) (s := x) hx
  have hcc : (W.alloc (.cells #[.int .i64 x.author, .int .i64 x.number, .string x.prev, .int .i64 x.time, .int .i64 x.kind, .int .i64 x.a, .int .i64 x.b, .int .i64 x.c, .slice none 0 0, .slice none 0 0, .string x.body, .int .i64 x.key, .string x.dig] 30)).cell? ⟨B, 0, none⟩ = some (.int .i64 au) := by rw [HB.out.cell (p := ⟨B, 0, none⟩) hB]; exact hc
  clear hx hc
  go_enter Tryz.func68, Tryz.ntmps68
  go_wp2_with fail
  go_ret
  exact ⟨rfl, HB.out⟩
/-- The statements of an author in a list. -/
def byAuthor (au : Int) (l : List Stm) : List Stm := l.filter fun s => decide (s.author = au)
theorem byAuthor_take (au : Int) (l : List Stm) (j : Nat) (h : j < l.length) : byAuthor au (l.take (j + 1)) = byAuthor au (l.take j) ++ if (l.getD j noStm).author = au then [l.getD j noStm] else [] := by
  unfold byAuthor
  have e : l.getD j noStm = l[j] := by rw [List.getD_eq_getElem?_getD, List.getElem?_eq_getElem h]; rfl
  rw [e, List.take_add_one, List.getElem?_eq_getElem h, List.filter_append]
  congr 1
  by_cases ha : l[j].author = au
  · rw [if_pos ha]; simp [ha]
  · rw [if_neg ha]; simp [ha]
theorem byAuthor_len (au : Int) (l : List Stm) (j : Nat) : (byAuthor au (l.take j)).length ≤ j := by
  unfold byAuthor
  have := List.length_filter_le (fun s : Stm => decide (s.author = au)) (l.take j)
  have h2 := List.length_take (i := j) (l := l)
  omega
set_option maxRecDepth 100000 in
set_option maxHeartbeats 4000000 in
theorem pick_any (A : Option Addr) (n c : Nat) (l : List Stm) (w : World) (hl : SRow w A n c l) (hn : n ≤ 1000000) (B : Nat) (au : Int) (hB : B < w.heap.size) (hc : w.cell? ⟨B, 0, none⟩ = some (.int .i64 au)) :
    Calls Tryz.prog 67 #[.slice A n c, .func (.func 68) #[] #[.pointer (some ⟨B, 0, none⟩)]] w fun e w' => ∃ A2 m c2, e = .returned (.slice A2 m c2) ∧ SRow w' A2 m c2 (byAuthor au l) ∧ Below w.heap.size w w' := by
  have HL := Lib.hid hl; have HLN := Lib.hid hl.len
  have HOF : Hid (∀ x y, Below w.heap.size w y → Calls Tryz.prog 68 #[stmV x none 0 0 none 0 0, .pointer (some ⟨B, 0, none⟩)] y (SaysL (.bool (decide (x.author = au))) y)) := Lib.hid fun x y h => ofOne_any x B au y (Nat.lt_of_lt_of_le hB h.size) ((h.cell (p := ⟨B, 0, none⟩) hB).trans hc)
  unfold stmV at HOF
  clear hl hB hc
  go_enter Tryz.func67, Tryz.ntmps67
  go_wp2
  go_loopw [5, 10] (fun v i wr => ∃ j m : Nat, j ≤ n ∧ i = .int .i64 j ∧ m ≤ j ∧ Hid (wr.ownsRow w.heap.size 30 13 v m (stmsC (byAuthor au (l.take j))) ∧ Below w.heap.size w wr)) (fun _ i _ => n - (intOf i).toNat)
  case atStart => exact ⟨0, 0, Nat.zero_le _, rfl, Nat.le_refl _, Lib.hid ⟨World.ownsRow_nil _ _ _ _, Below.refl _ _⟩⟩
  case round =>
    obtain ⟨j, m, hj, rfl, hmj, HQ⟩ := hrel
    by_cases hlt : j < n
    · obtain ⟨b, off, hA, hc0, hc1, hc2, hc3, hc4, hc5, hc6, hc7, hc8, hc9, hc10, hc11, hc12⟩ := SRow.cells (HL.out.later HQ.out.2) j hlt
      subst hA
      have HT := Lib.hid (byAuthor_take au l j (by rw [HLN.out]; exact hlt))
      generalize l.getD j noStm = s at *
      go_wp2_with (first | (refine wpList_store_new rfl 30 (.tmp 7) (.tmp 13) rfl 30 _ #[.int .i64 s.author, .int .i64 s.number, .string s.prev, .int .i64 s.time, .int .i64 s.kind, .int .i64 s.a, .int .i64 s.b, .int .i64 s.c, .slice none 0 0, .slice none 0 0, .string s.body, .int .i64 s.key, .string s.dig] rfl rfl (by kernel_rfl) rfl (by simp [Value.oneCell']) ?_) | (refine wpList_load_row rfl 30 (.tmp 7) rfl (wr.heap.size) rfl 30 #[.int .i64 s.author, .int .i64 s.number, .string s.prev, .int .i64 s.time, .int .i64 s.kind, .int .i64 s.a, .int .i64 s.b, .int .i64 s.c, .slice none 0 0, .slice none 0 0, .string s.body, .int .i64 s.key, .string s.dig] (0, 0) _ (BoxS.new wr s) Tryz.underlying30 rfl (by kernel_rfl) ?_))
      clear hc0 hc1 hc2 hc3 hc4 hc5 hc6 hc7 hc8 hc9 hc10 hc11 hc12
      have HB1 : Hid (Below w.heap.size w (wr.alloc (.cells #[.int .i64 s.author, .int .i64 s.number, .string s.prev, .int .i64 s.time, .int .i64 s.kind, .int .i64 s.a, .int .i64 s.b, .int .i64 s.c, .slice none 0 0, .slice none 0 0, .string s.body, .int .i64 s.key, .string s.dig] 30))) := Lib.hid (HQ.out.2.trans ((one_new wr _).mono HQ.out.2.size))
      refine (HOF.out s _ HB1.out).mono ?_
      rintro e w2 ⟨rfl, hb⟩
      have HX2 : Hid (BoxS w2 wr.heap.size s) := Lib.hid ((BoxS.new wr s).later hb)
      have HL2 : Hid (Below wr.heap.size wr w2) := Lib.hid ((one_new wr _).trans (hb.mono (by simp)))
      have HO2 := Lib.hid (own_below HQ.out.1 (HL2.out.mono (Nat.le_refl _)) (own_lt HQ.out.1))
      have HB2 : Hid (Below w.heap.size w w2) := Lib.hid (HQ.out.2.trans (HL2.out.mono HQ.out.2.size))
      clear hb HB1
      by_cases ha : s.author = au
      · have HT2 : Hid (byAuthor au (l.take (j + 1)) = byAuthor au (l.take j) ++ [s]) := Lib.hid (by rw [HT.out, if_pos ha])
        rw [decide_eq_true ha]
        clear ha HT
        go_wp2_with (first | (refine wpList_load_row rfl 30 (.tmp 7) rfl (wr.heap.size) rfl 30 #[.int .i64 s.author, .int .i64 s.number, .string s.prev, .int .i64 s.time, .int .i64 s.kind, .int .i64 s.a, .int .i64 s.b, .int .i64 s.c, .slice none 0 0, .slice none 0 0, .string s.body, .int .i64 s.key, .string s.dig] (0, 0) _ (HX2.out) Tryz.underlying30 rfl (by kernel_rfl) ?_) | (at_builtin; go_must (refine wpList_app_newK w2 rfl (.tmp 17) (.tmp 19) 22 30 rfl w.heap.size Tryz.underlying22 stm_info rfl _ m (stmsC (byAuthor au (l.take j))) HO2.out rfl 1 #[.int .i64 s.author, .int .i64 s.number, .string s.prev, .int .i64 s.time, .int .i64 s.kind, .int .i64 s.a, .int .i64 s.b, .int .i64 s.c, .slice none 0 0, .slice none 0 0, .string s.body, .int .i64 s.key, .string s.dig] rfl (by simp [Value.oneCell']) rfl rfl (by unfold maxLen; omega) (by omega) HB2.out.size ?_); intro x3 z3 ho hb hk1 hk2; have HO3 := Lib.hid ho; have HB3 := Lib.hid (HB2.out.trans hb); clear ho hb hk1 hk2))
        refine ⟨⟨j + 1, m + 1, hlt, by go_num, by omega, Lib.hid ⟨?_, HB3.out⟩⟩, by simp [intOf]; omega⟩
        rw [HT2.out, stmsC_app, stmsC_single]
        exact HO3.out
      · have HT2 : Hid (byAuthor au (l.take (j + 1)) = byAuthor au (l.take j)) := Lib.hid (by rw [HT.out, if_neg ha, List.append_nil])
        rw [decide_eq_false ha]
        clear ha HT
        go_wp2_with fail
        refine ⟨⟨j + 1, m, hlt, by go_num, by omega, Lib.hid ⟨?_, HB2.out⟩⟩, by simp [intOf]; omega⟩
        rw [HT2.out]
        exact HO2.out
    · have HE : Hid (j = n) := by unfold Hid; omega
      go_wp2_with fail
      go_ret
      have h := HQ.out.1
      rw [HE.out, List.take_of_length_le (by rw [HLN.out]; exact Nat.le_refl _)] at h
      obtain ⟨A2, c2, hv, hr⟩ := Row.of_own h
      exact ⟨A2, m, c2, by rw [hv]; rfl, hr, HQ.out.2⟩
set_option maxRecDepth 100000 in
set_option maxHeartbeats 2000000 in
theorem of_any (A : Option Addr) (n c : Nat) (l : List Stm) (w : World) (hl : SRow w A n c l) (hn : n ≤ 1000000) (au : Int) :
    Calls Tryz.prog 32 #[.agg #[.slice A n c], .int .i64 au] w fun e w' => ∃ A2 m c2, e = .returned (.slice A2 m c2) ∧ SRow w' A2 m c2 (byAuthor au l) ∧ Below w.heap.size w w' := by
  have HB := Lib.hid ((one_new w (.cells #[.slice A n c] 24)).trans ((one_new (w.alloc (.cells #[.slice A n c] 24)) (.cells #[.int .i64 au] 3)).mono (by simp)))
  have HX0 : Hid (((w.alloc (.cells #[.slice A n c] 24)).alloc (.cells #[.int .i64 au] 3)).heap[w.heap.size]? = some (.cells #[.slice A n c] 24 (0, 0))) := Lib.hid ((Below.heap_alloc _ _ _ (by simp)).trans (heap_alloc_new _ _))
  have HX1 : Hid (((w.alloc (.cells #[.slice A n c] 24)).alloc (.cells #[.int .i64 au] 3)).heap[w.heap.size + 1]? = some (.cells #[.int .i64 au] 3 (0, 0))) := Lib.hid (by
    have h := heap_alloc_new (w.alloc (.cells #[.slice A n c] 24)) (.cells #[.int .i64 au] 3)
    rw [show (w.alloc (.cells #[.slice A n c] 24)).heap.size = w.heap.size + 1 by simp] at h
    exact h)
  have hc0 := cell_of_row _ _ 0 _ _ _ HX0.out
  have hc1 := cell_of_row _ _ 0 _ _ _ HX1.out
  simp only [List.getElem?_toArray, List.getElem?_cons_zero] at hc0 hc1
  have HP := Lib.hid (pick_any A n c l _ (hl.later HB.out) hn (w.heap.size + 1) au (Array.getElem?_eq_some_iff.1 HX1.out).1 hc1)
  clear hl hc1 HX1
  go_enter Tryz.func32, Tryz.ntmps32
  go_wp2_with fail
  refine HP.out.mono ?_
  rintro e w2 ⟨A2, m, c2, rfl, hr, hb⟩
  have HR := Lib.hid hr; have HB2 := Lib.hid (HB.out.trans (hb.mono HB.out.size))
  clear hr hb hc0
  go_wp2_with fail
  go_ret
  exact ⟨_, _, _, rfl, HR.out, HB2.out⟩
set_option maxRecDepth 100000 in
set_option maxHeartbeats 2000000 in
theorem row_any (A : Option Addr) (n c : Nat) (l : List Stm) (w : World) (hl : SRow w A n c l) (hn : n ≤ 1000) (au : Int) (hg : Good au (byAuthor au l)) (h2 : ∀ n : Nat, ((byAuthor au l).filter fun s => decide (s.number = (n : Int))).length ≤ 2) (hr : Rounds w) :
    Calls Tryz.prog 65 #[.agg #[.slice A n c], .int .i64 au] w fun e w' => ∃ A2 m c2, e = .returned (.slice A2 m c2) ∧ SRow w' A2 m c2 (countL (byAuthor au l) 200 [] 0) ∧ Below w.heap.size w w' := by
  have HN := Lib.hid hl.len
  have HB := Lib.hid (one_new w (.cells #[.slice A n c] 24))
  have HX0 := Lib.hid (heap_alloc_new w (.cells #[.slice A n c] 24))
  have hc0 := cell_of_row _ _ 0 _ _ _ HX0.out
  simp only [List.getElem?_toArray, List.getElem?_cons_zero] at hc0
  have HP := Lib.hid (of_any A n c l _ (hl.later HB.out) (by omega) au)
  have HG := Lib.hid hg; have H2 := Lib.hid h2
  have HRR : Hid (∀ y, Below w.heap.size w y → Rounds y) := Lib.hid fun y h => hr.later h
  clear hl hg h2 hr
  go_enter Tryz.func65, Tryz.ntmps65
  go_wp2_with fail
  refine HP.out.mono ?_
  rintro e w2 ⟨A2, m, c2, rfl, hr, hb⟩
  have HB2 := Lib.hid (HB.out.trans (hb.mono HB.out.size))
  have hm : m ≤ 1000 := by
    have h1 := hr.len
    have h2 : (byAuthor au l).length ≤ l.length := List.length_filter_le _ _
    have h3 := HN.out
    omega
  have HC := Lib.hid (counted_any au A2 m c2 (byAuthor au l) w2 hr HG.out hm (HRR.out w2 HB2.out) H2.out)
  clear hr hb hc0 hm
  go_wp2_with fail
  refine HC.out.mono ?_
  rintro e w3 ⟨A3, m3, c3, rfl, hr, hb⟩
  have HR := Lib.hid hr; have HB3 := Lib.hid (HB2.out.trans (hb.mono HB2.out.size))
  clear hr hb
  go_wp2_with fail
  go_ret
  exact ⟨_, _, _, rfl, HR.out, HB3.out⟩
set_option maxRecDepth 100000 in
set_option maxHeartbeats 2000000 in
theorem height_any (A : Option Addr) (n c : Nat) (l : List Stm) (w : World) (hl : SRow w A n c l) (hn : n ≤ 1000) (au : Int) (hg : Good au (byAuthor au l)) (h2 : ∀ n : Nat, ((byAuthor au l).filter fun s => decide (s.number = (n : Int))).length ≤ 2) (hr : Rounds w) :
    Calls Tryz.prog 34 #[.agg #[.slice A n c], .int .i64 au] w (SaysL (.int .i64 (countL (byAuthor au l) 200 [] 0).length) w) := by
  have HB := Lib.hid (one_new w (.cells #[.slice A n c] 24))
  have HX0 := Lib.hid (heap_alloc_new w (.cells #[.slice A n c] 24))
  have hc0 := cell_of_row _ _ 0 _ _ _ HX0.out
  simp only [List.getElem?_toArray, List.getElem?_cons_zero] at hc0
  have HP := Lib.hid (row_any A n c l _ (hl.later HB.out) hn au hg h2 (hr.later HB.out))
  clear hl hg h2 hr
  go_enter Tryz.func34, Tryz.ntmps34
  go_wp2_with fail
  refine HP.out.mono ?_
  rintro e w2 ⟨A2, m, c2, rfl, hr, hb⟩
  have HL := Lib.hid hr.len; have HB2 := Lib.hid (HB.out.trans (hb.mono HB.out.size))
  clear hr hb hc0
  go_wp2_with fail
  go_ret
  exact ⟨by rw [HL.out]; rfl, HB2.out⟩
end Go.Proofs.YtnjilfdmplbalaaGreatDoor
/- The walk of chain.Branch where the way back is one statement. -/
namespace Go.Proofs.YtnjilfdmplbalaaGreatDoor
open Go.RowKit
attribute [local go_sem] Oper.semAt_some
set_option maxRecDepth 100000 in
set_option maxHeartbeats 1000000 in
theorem reverse1 (g cap : Nat) (w : World) : Calls Tryz.prog 101 #[.slice (some ⟨g, 0, none⟩) 1 cap] w fun e w' => e = .returned (.tuple #[]) ∧ w' = w := by
  go_enter Tryz.func101, Tryz.ntmps101
  go_wp2_with fail
  go_loopw [2, 3] (fun i j wr => i = .int .i64 0 ∧ j = .int .i64 0 ∧ wr = w) (fun _ _ _ => 0)
  case atStart => exact ⟨rfl, rfl, rfl⟩
  case round =>
    obtain ⟨rfl, rfl, rfl⟩ := hrel
    go_wp2_with fail
    go_end0
    exact ⟨rfl, rfl⟩
set_option maxRecDepth 100000 in
set_option maxHeartbeats 4000000 in
theorem branch1_any (au : Int) (A : Option Addr) (n c : Nat) (l : List Stm) (w : World) (hl : SRow w A n c l) (hg : Good au l) (hn : n ≤ 1000) (hr : Rounds w) (d : ByteArray) (x1 : Stm) (hx : Way l [x1] d) (h0 : x1.number = 0) :
    Calls Tryz.prog 72 #[.int .i64 au, .slice A n c, .string d] w fun e w' => ∃ A2 c2, e = .returned (.tuple #[.slice A2 1 c2, .bool true]) ∧ SRow w' A2 1 c2 [x1] ∧ Below w.heap.size w w' := by
  obtain ⟨xs, hxs⟩ : ∃ xs, xs = [x1] := ⟨_, rfl⟩
  rw [← hxs] at hx
  have hlen : xs.length = 1 := by rw [hxs]; rfl
  have HXS := Lib.hid hxs; clear hxs
  obtain ⟨w0, hw0⟩ : ∃ w0, w0 = w.alloc (.cells #[.slice none 0 0] 22) := ⟨_, rfl⟩
  have HB0 : Hid (Below w.heap.size w w0) := Lib.hid (by rw [hw0]; exact one_new w _)
  have HX0 : Hid (Boxed w0 w.heap.size 22 (.slice none 0 0)) := Lib.hid (by rw [hw0]; exact Boxed.new w _ _)
  have HZ0 : Hid (w0.heap.size = w.heap.size + 1) := Lib.hid (by rw [hw0]; simp)
  have HFI := Lib.hid (find_any au A n c l w0 (hl.later HB0.out) hg hn (hr.later HB0.out))
  have HG := Lib.hid hg; have HX := Lib.hid hx; have HLE := Lib.hid hlen; have H0 := Lib.hid h0
  clear hl hg hr hx hlen h0
  refine (callsIn_wide (n := 8)).1 ?_
  refine callsIn_of_wp_marks Tryz.func72 rfl trivial ?_ rfl
  simp only [Tryz.ntmps72, List.size_toArray, List.length_cons, List.length_nil, Nat.reduceAdd, Nat.reduceSub, Array.replicate_succ, Array.replicate_zero, List.push_toArray, List.append_toArray, List.nil_append, List.cons_append]
  gi_wp2
  refine ⟨trivial, ?_⟩
  have HF2 := HFI.out
  rw [hw0, ← hw0, HZ0.out, hw0] at HF2
  refine (callsIn_wide.2 HF2).mono ?_
  rintro e w1 ⟨rfl, hm, hb⟩
  rw [← hw0] at hb
  have hsz : w.heap.size + 1 ≤ w1.heap.size := by have := hb.size; have := HZ0.out; omega
  have HM1 := Lib.hid hm; have HX1 : Hid (Boxed w1 w.heap.size 22 (.slice none 0 0)) := Lib.hid ((hb.block _ (by have := HX0.out.lt; have := HZ0.out; omega)).trans HX0.out); have HB1 := Lib.hid (HB0.out.trans (hb.mono (by omega))); have HSZ := Lib.hid hsz
  clear hm hb hsz HF2 HFI
  gi_wp2
  refine ⟨trivial, ?_⟩
  refine (back_in _ _ _ _).mono ?_
  rintro e w2 ⟨rfl, hw2⟩
  have HB2 : Hid (Below w1.heap.size w1 w2) := Lib.hid (by rw [hw2]; exact ((Below.refl _ w1).alloc (Nat.le_refl _) _).alloc (by simp) _)
  have HZ2 : Hid (w2.heap.size = w1.heap.size + 2) := Lib.hid (by rw [hw2]; simp)
  have HK2 : Hid (BackAt w1.heap.size (w1.heap.size + 1) (w.heap.size + 1) l d w2) := Lib.hid ⟨by rw [hw2]; exact (Below.heap_alloc _ _ _ (by simp)).trans (heap_alloc_new _ _), by
    rw [hw2]
    have h := heap_alloc_new (w1.alloc (.cells #[.map (some (w.heap.size + 1))] 110)) (.cells #[.string d] 9)
    rwa [World.size_alloc] at h, HM1.out.later HB2.out⟩
  have HX2 : Hid (Boxed w2 w.heap.size 22 (.slice none 0 0)) := Lib.hid ((HB2.out.block _ HX1.out.lt).trans HX1.out)
  have HW2 : Hid (Below w.heap.size w w2) := Lib.hid (HB1.out.trans (HB2.out.mono HB1.out.size))
  clear hw2
  gi_wp2
  refine range_but rfl (by omega) (gf := 127) (lb := #[.pointer (some ⟨w1.heap.size, 0, none⟩), .pointer (some ⟨w1.heap.size + 1, 0, none⟩)]) rfl trivial (enters_of Tryz.func127 (by kernel_rfl) rfl) (fun x : Stm => #[stmV x none 0 0 none 0 0]) (fun _ => rfl)
    xs w1.heap.size (w1.heap.size + 1) (w.heap.size + 1) (by have := HZ2.out; have := HSZ.out; omega) (Came w w2.heap.size) ?seq ?start (fun s X Y h hb => h.grown (by have := HZ2.out; have := HSZ.out; omega) hb.grownBy (by omega) (by omega)) (fun s X o h => h.grown (by have := HZ2.out; have := HSZ.out; omega) (grownBy_putObj' X _ o) (by omega) (by omega))
    (fun x a' X => ∃ B, w2.heap.size + 2 < B ∧ X.heap[B]? = some (.cells #[.int .i64 x.author, .int .i64 x.number, .string x.prev, .int .i64 x.time, .int .i64 x.kind, .int .i64 x.a, .int .i64 x.b, .int .i64 x.c, .slice none 0 0, .slice none 0 0, .string x.body, .int .i64 x.key, .string x.dig] 30 (0, 0)) ∧
      a' = { tmps := #[.int .i64 au, .slice A n c, .string d, undef, undef, undef, .slice none 0 0, .bool false, .pointer (some ⟨w.heap.size, 0, none⟩), .pointer (some ⟨B, 0, none⟩), .int .i64 au, .slice A n c, .map (some (w.heap.size + 1)), .string d,
        .func (.func 127) #[] #[.pointer (some ⟨w1.heap.size, 0, none⟩), .pointer (some ⟨w1.heap.size + 1, 0, none⟩)], stmV x none 0 0 none 0 0, undef, undef, undef, undef, undef, undef, undef, undef, undef, undef, undef, undef, undef, undef, undef, undef, undef], defers := [] })
    (fun x a' X o h => by obtain ⟨B, h1, h2, h3⟩ := h; exact ⟨B, h1, (World.putObj_heap_other (by omega)).trans h2, h3⟩) ?assign ?body ?done
  case seq =>
    intro l2 J W hW hWz hJ hY hJ0
    exact back1_in au _ (by omega) l2 w1.heap.size (w1.heap.size + 1) (w.heap.size + 1) l HG.out d xs HX.out J W hJ hY (HK2.out.later hW) hJ0
  case start =>
    intro W hW
    exact ⟨⟨_, (hW.block _ HX2.out.lt).trans HX2.out, World.ownsRow_nil _ _ _ _⟩, HW2.out.trans (hW.mono HW2.out.size)⟩
  case assign =>
    intro l2 pre x W K hi hsz hK
    have HKK := Lib.hid hK; have HI := Lib.hid hi
    clear hK hi
    unfold stmV
    gi_wp2
    have hss := HSZ.out; have hzz := HZ2.out
    exact HKK.out _ _ ((KeepsOthers.alloc _ _).from _) ⟨by simp, Below.heap_alloc _ _ _ (by omega), Below.heap_alloc _ _ _ (by omega), Below.heap_alloc _ _ _ (by omega), Below.heap_alloc _ _ _ hsz⟩ (HI.out.alloc _) ⟨W.heap.size, hsz, heap_alloc_new _ _, rfl⟩
  case body =>
    rintro l2 pre x a' W ⟨⟨v, hv, hr⟩, hb⟩ ⟨B, hB, hxb, rfl⟩ hlt hsz
    have HV := Lib.hid hv; have HR := Lib.hid hr; have HBW := Lib.hid hb
    have hc := hv.cell
    obtain ⟨hc0, hc1, hc2, hc3, hc4, hc5, hc6, hc7, hc8, hc9, hc10, hc11, hc12⟩ := stm_cells (A := none) (n := 0) (c := 0) (B := none) (m := 0) (k := 0) (s := x) hxb
    have hpl : pre.length ≤ 1000 := by have := HLE.out; omega
    clear hv hr hb hxb
    unfold stmV
    gi_wp2_with (gi_at_builtin; go_must (refine wpListIn_app_newK W rfl (.tmp 16) (.tmp 18) 22 30 rfl (w2.heap.size + 3) Tryz.underlying22 stm_info rfl v pre.length (stmsC pre) HR.out rfl 1 #[.int .i64 x.author, .int .i64 x.number, .string x.prev, .int .i64 x.time, .int .i64 x.kind, .int .i64 x.a, .int .i64 x.b, .int .i64 x.c, .slice none 0 0, .slice none 0 0, .string x.body, .int .i64 x.key, .string x.dig] rfl (by simp [Value.oneCell']) rfl rfl (by unfold maxLen; omega) (by omega) (by omega) ?_); intro v' x3 ho hb3 hk3; obtain ⟨g', cap', rfl⟩ := ownsRow_succ ho; have hv3 := came_box (w := w) (b := w2.heap.size) (by have := HSZ.out; have := HZ2.out; omega) HV.out HR.out hk3; have HO := Lib.hid ho; have HB3 := Lib.hid hb3; have HK3 := Lib.hid hk3; have hcx := hv3.cell; have hfx := hv3.frozen; clear ho hb3 hk3 hv3)
    have hss := HSZ.out; have hzz := HZ2.out
    obtain ⟨r1, r2, r3⟩ := came_on (x := x) (by omega) HBW.out hsz HV.out HR.out HO.out HB3.out HK3.out w1.heap.size (w1.heap.size + 1) (w.heap.size + 1) (by omega) (by omega) (by omega)
    exact ⟨rfl, r1, r2, r3⟩
  case done =>
    rintro W ⟨⟨v, hv, hr⟩, hb⟩ hWz hK
    rw [HLE.out] at hr
    obtain ⟨g, cap, rfl⟩ := ownsRow_succ hr
    have hc := hv.cell
    have hss := HSZ.out; have hzz := HZ2.out
    have HGB : Hid (w2.heap.size + 3 ≤ g) := Lib.hid (World.ownsRow.lt hr g rfl).1
    have HCF : Hid ((∀ j, j < 13 → W.cell? ⟨g, j, none⟩ = (stmsC [x1])[j]?) ∧ ∀ j, W.frozen? ⟨g, j, none⟩ = false) := Lib.hid (by
      rw [HXS.out] at hr
      constructor
      · obtain ⟨A2, c2, e2, hrow⟩ := Row.of_own hr
        injection e2 with e3 _ _
        subst e3
        obtain ⟨b2, off, e4, hcell⟩ := Row.form hrow (by decide)
        injection e4 with e4
        injection e4 with e5 e6 _
        subst e5 e6
        intro j hj
        have h := hcell j hj
        rwa [Nat.zero_add] at h
      · intro j
        rcases hr.2 with ⟨h, _⟩ | ⟨g2, cap2, cur, h, _, hgb, _⟩
        · cases h
        · injection h with h _ _
          injection h with h
          injection h with h _ _
          subst h
          simp [World.frozen?, hgb])
    have HV := Lib.hid hv; have HBW := Lib.hid hb; have HK := Lib.hid hK
    have HROW : Hid (SRow W (some ⟨g, 0, none⟩) 1 cap [x1]) := Lib.hid (by
      rw [HXS.out] at hr
      obtain ⟨A2, c2, e2, hrow⟩ := Row.of_own hr
      injection e2 with e3 _ e4
      subst e3 e4
      exact hrow)
    clear hr hv hb hK
    gi_wp2
    refine ⟨trivial, ?_⟩
    refine (callsIn_wide.2 (reverse1 g cap W)).mono ?_
    rintro e w3 ⟨rfl, rfl⟩
    obtain ⟨b2, off2, hA2, hc0, hc1, -⟩ := SRow.cells HROW.out 0 (by omega)
    injection hA2 with hA2
    injection hA2 with e5 e6
    subst e5 e6
    have hn : ([x1] : List Stm).getD 0 noStm = x1 := rfl
    rw [hn, H0.out] at hc1
    clear hn hc0
    gi_wp2
    have HK4 := HK.out
    rw [hzz] at HK4
    refine ⟨by simp, .inl ⟨_, _, rfl, run_takeDeferred HK4, ?_⟩⟩
    refine ⟨_, results_tmp2 rfl _ _ _, some ⟨g, 0, none⟩, cap, rfl, ?_, HBW.out.trans (belowK_b (w := w) (Nat.le_refl _) _ _ _ _ (by omega) HK4 rfl rfl)⟩
    refine Row.keep HROW.out fun ad hA h1 hlt => ?_
    injection hA with hA
    subst hA
    exact World.putObj_heap_other (by have := HGB.out; simp; omega)
end Go.Proofs.YtnjilfdmplbalaaGreatDoor
/- The walks of store's Pins, arePins, Pinned, over a store of one statement of the author 1. -/
namespace Go.Proofs.YtnjilfdmplbalaaGreatDoor
open Go.RowKit
/-- A first statement of the author 1. -/
structure One (s : Stm) : Prop where
  fit : Fit ((1 : Nat) : Int) s
  num : s.number = 0
  prev : s.prev = ⟨#[]⟩
  dig : s.dig.size = 32
theorem One.whole {s : Stm} (h : One s) : Whole' ((1 : Nat) : Int) [s] := (Whole'.nil _).snoc (l := []) h.fit (fun _ h => by cases h) (by rw [h.num]; rfl) rfl
theorem One.by {s : Stm} (h : One s) (k : Int) : byAuthor k [s] = if k = 1 then [s] else [] := by
  unfold byAuthor
  have ha := h.fit.author
  by_cases hk : k = 1
  · rw [if_pos hk]; simp [ha, hk]
  · rw [if_neg hk]
    have : ¬ s.author = k := by rw [ha]; omega
    simp [this]
theorem One.good {s : Stm} (h : One s) (k : Int) : Good k (byAuthor k [s]) := by
  rw [h.by k]
  by_cases hk : k = 1
  · rw [if_pos hk, hk]; exact h.whole.good
  · rw [if_neg hk]; exact Good.nil k
theorem One.two {s : Stm} (h : One s) (k : Int) (n : Nat) : ((byAuthor k [s]).filter fun x => decide (x.number = (n : Int))).length ≤ 2 := by
  rw [h.by k]
  by_cases hk : k = 1
  · rw [if_pos hk]; exact h.whole.two n
  · rw [if_neg hk]; simp
theorem One.count {s : Stm} (h : One s) (k : Int) : countL (byAuthor k [s]) 200 [] 0 = byAuthor k [s] := by
  rw [h.by k]
  by_cases hk : k = 1
  · rw [if_pos hk]; exact h.whole.count (by simp)
  · rw [if_neg hk]; exact (Whole'.nil 0).count (by simp)
theorem pin_info2 : (Tryz.prog.info? 57).map (fun i => (i.zero, i.size, i.bytes)) = some (some (.agg #[.int .i64 0, .int .i64 0, .string ⟨#[]⟩]), 3, 32) := by kernel_rfl
set_option maxRecDepth 100000 in
set_option maxHeartbeats 4000000 in
theorem pins_one (A : Option Addr) (c : Nat) (s : Stm) (w : World) (hl : SRow w A 1 c [s]) (hs : One s) (hr : Rounds w) :
    Calls Tryz.prog 30 #[.agg #[.slice A 1 c]] w fun e w' => ∃ A2 c2, e = .returned (.slice A2 1 c2) ∧ PRow w' A2 1 c2 [⟨1, 1, s.dig⟩] ∧ Below w.heap.size w w' := by
  have HRO : Hid (∀ (k : Int) y, Below w.heap.size w y → Calls Tryz.prog 65 #[.agg #[.slice A 1 c], .int .i64 k] y fun e w' => ∃ A2 m c2, e = .returned (.slice A2 m c2) ∧ SRow w' A2 m c2 (if k = 1 then [s] else []) ∧ Below y.heap.size y w') := Lib.hid fun k y h => by
    have h1 := row_any A 1 c [s] y (hl.later h) (by omega) k (hs.good k) (hs.two k) (hr.later h)
    rw [hs.count k, hs.by k] at h1
    exact h1
  clear hl hs hr
  have HB0 := Lib.hid (one_new w (.cells #[.slice A 1 c] 24))
  have HX0 := Lib.hid (heap_alloc_new w (.cells #[.slice A 1 c] 24))
  go_enter Tryz.func30, Tryz.ntmps30
  go_wp2_with fail
  generalize w.alloc (.cells #[.slice A 1 c] 24) = w0 at HB0 HX0 ⊢
  have HZ0 : Hid (w.heap.size < w0.heap.size) := Lib.hid (Array.getElem?_eq_some_iff.1 HX0.out).1
  go_loopw [3, 7] (fun v i wr => ∃ j : Nat, j ≤ 64 ∧ i = .int .i64 j ∧ Hid (wr.ownsRow w0.heap.size 57 3 v (if 1 < j then 1 else 0) (pinsC (if 1 < j then [⟨1, 1, s.dig⟩] else [])) ∧ Below w0.heap.size w0 wr)) (fun _ i _ => 64 - (intOf i).toNat)
  case atStart => exact ⟨0, Nat.zero_le _, rfl, Lib.hid ⟨World.ownsRow_nil _ _ _ _, Below.refl _ _⟩⟩
  case round =>
    obtain ⟨j, hj, rfl, HQ⟩ := hrel
    by_cases hlt : j < 64
    · have hc0 := cell_of_row _ _ 0 _ _ _ ((HQ.out.2.block _ HZ0.out).trans HX0.out)
      simp only [List.getElem?_toArray, List.getElem?_cons_zero] at hc0
      go_wp2_with fail
      refine (HRO.out (j : Int) wr (HB0.out.trans (HQ.out.2.mono HB0.out.size))).mono ?_
      rintro e w1 ⟨A2, m, c2, rfl, hrow, hb⟩
      have HO1 := Lib.hid (own_below HQ.out.1 hb (own_lt HQ.out.1))
      have HB1 : Hid (Below w0.heap.size w0 w1) := Lib.hid (HQ.out.2.trans (hb.mono HQ.out.2.size))
      clear hc0 hb
      by_cases h1 : j = 1
      · subst h1
        rw [if_pos (by rfl)] at hrow
        have hm : m = 1 := hrow.len.symm
        subst hm
        obtain ⟨b, off, hA, hc0, hc1, hc2, hc3, hc4, hc5, hc6, hc7, hc8, hc9, hc10, hc11, hc12⟩ := SRow.cells hrow 0 (by omega)
        subst hA
        have e0 : ([s] : List Stm).getD 0 noStm = s := rfl
        simp only [e0, Nat.zero_mul, Nat.add_zero] at hc0 hc1 hc2 hc3 hc4 hc5 hc6 hc7 hc8 hc9 hc10 hc11 hc12
        clear hrow e0
        have HO2 : Hid (w1.ownsRow w0.heap.size 57 3 u3 0 (pinsC [])) := HO1
        have hbx := BoxS.new w1 s
        unfold BoxS at hbx
        obtain ⟨-, -, -, -, -, -, -, -, -, -, -, -, hd12⟩ := stm_cells (A := none) (n := 0) (c := 0) (B := none) (m := 0) (k := 0) (s := s) hbx
        clear hbx
        go_wp2_with (first | (refine wpList_store_new rfl 30 (.tmp 6) (.tmp 21) rfl 30 _ #[.int .i64 s.author, .int .i64 s.number, .string s.prev, .int .i64 s.time, .int .i64 s.kind, .int .i64 s.a, .int .i64 s.b, .int .i64 s.c, .slice none 0 0, .slice none 0 0, .string s.body, .int .i64 s.key, .string s.dig] rfl rfl (by kernel_rfl) rfl (by simp [Value.oneCell']) ?_) | (at_builtin; go_must (refine wpList_app_newK (w1.alloc (.cells #[.int .i64 s.author, .int .i64 s.number, .string s.prev, .int .i64 s.time, .int .i64 s.kind, .int .i64 s.a, .int .i64 s.b, .int .i64 s.c, .slice none 0 0, .slice none 0 0, .string s.body, .int .i64 s.key, .string s.dig] 30)) rfl (.tmp 22) (.tmp 30) 26 57 rfl w0.heap.size Tryz.underlying26 pin_info2 rfl _ 0 (pinsC []) (World.ownsRow.alloc HO2.out _) rfl 1 #[.int .i64 1, .int .i64 1, .string s.dig] rfl (by simp [Value.oneCell']) (by exact congrArg (fun k => Value.slice (some ⟨k, 0, none⟩) 1 1) (show w1.heap.size + 1 = (w1.alloc (.cells #[.int .i64 s.author, .int .i64 s.number, .string s.prev, .int .i64 s.time, .int .i64 s.kind, .int .i64 s.a, .int .i64 s.b, .int .i64 s.c, .slice none 0 0, .slice none 0 0, .string s.body, .int .i64 s.key, .string s.dig] 30)).heap.size by simp)) rfl (by unfold maxLen; omega) (by omega) (by have := HB1.out.size; simp; omega) ?_); intro x3 z3 ho hb hk1 hk2; have HO3 := Lib.hid ho; have HB3 := Lib.hid ((HB1.out.trans ((one_new w1 _).mono HB1.out.size)).trans hb); clear ho hb hk1 hk2))
        exact ⟨⟨2, by omega, rfl, Lib.hid ⟨HO3.out, HB3.out⟩⟩, by simp [intOf]⟩
      · rw [if_neg (by omega)] at hrow
        have hm : m = 0 := hrow.len.symm
        subst hm
        clear hrow
        go_wp2_with fail
        have e1 : (1 < j) = (1 < j + 1) := by apply propext; omega
        refine ⟨⟨j + 1, hlt, by go_num, Lib.hid ⟨?_, HB1.out⟩⟩, by simp [intOf]; omega⟩
        simp only [← e1]
        exact HO1.out
    · have hj2 : j = 64 := by omega
      subst hj2
      go_wp2_with fail
      go_ret
      obtain ⟨A2, c2, hv, hr⟩ := Row.of_own HQ.out.1
      exact ⟨A2, c2, by rw [hv]; rfl, hr, HB0.out.trans (HQ.out.2.mono HB0.out.size)⟩
end Go.Proofs.YtnjilfdmplbalaaGreatDoor
/- The walks of store's arePins and Pinned, over a store of one statement. -/
namespace Go.Proofs.YtnjilfdmplbalaaGreatDoor
open Go.RowKit
theorem one_pin (dig : ByteArray) (h : dig.size = 32) : checkV ⟨0, 0, ⟨#[]⟩, 0, 10, 0, 0, 0, [], [⟨1, 1, dig⟩], ⟨#[]⟩, 0, ⟨#[]⟩⟩ = 0 := by
  have hp : pinsB [⟨1, 1, dig⟩] = true := by
    unfold pinsB
    show ([0] : List Nat).all (pinB [⟨1, 1, dig⟩]) = true
    unfold pinB
    simp only [List.all_cons, List.all_nil, Bool.and_true, List.getD_cons_zero]
    rw [h]
    rfl
  have hf : formB ⟨0, 0, ⟨#[]⟩, 0, 10, 0, 0, 0, [], [⟨1, 1, dig⟩], ⟨#[]⟩, 0, ⟨#[]⟩⟩ = true := by
    unfold formB prevB
    simp only
    rw [hp]
    rfl
  unfold checkV
  rw [hf]
  rfl
set_option maxRecDepth 100000 in
set_option maxHeartbeats 2000000 in
theorem arePins_one (A : Option Addr) (c : Nat) (dig : ByteArray) (w : World) (hl : PRow w A 1 c [⟨1, 1, dig⟩]) (h : dig.size = 32) :
    Calls Tryz.prog 71 #[.slice A 1 c] w (SaysL (.bool true) w) := by
  have HC : Hid (Calls Tryz.prog 41 #[stmV ⟨0, 0, ⟨#[]⟩, 0, 10, 0, 0, 0, [], [⟨1, 1, dig⟩], ⟨#[]⟩, 0, ⟨#[]⟩⟩ none 0 0 A 1 c] w (SaysL (.int .i64 0) w)) := Lib.hid (by
    have := check_any ⟨0, 0, ⟨#[]⟩, 0, 10, 0, 0, 0, [], [⟨1, 1, dig⟩], ⟨#[]⟩, 0, ⟨#[]⟩⟩ none 0 0 A 1 c w (Row.nilRow _ _) hl (by omega) (by omega) (by show (0 : Nat) ≤ _; omega)
    rw [one_pin dig h] at this
    exact this)
  clear hl h
  unfold stmV at HC
  go_enter Tryz.func71, Tryz.ntmps71
  go_wp2_with fail
  refine HC.out.mono ?_
  rintro e w1 ⟨rfl, hb⟩
  have HB := Lib.hid hb; clear hb HC
  go_wp2_with fail
  go_ret
  exact ⟨rfl, HB.out⟩
theorem pin_futs3 {F : World → World → Prop} (hr : ∀ w, F w w) {W : World} {g : Nat} {x y : Int} {d : ByteArray} {t : TypeId} (hF : ∀ w', F W w' → w'.heap[g]? = W.heap[g]?) (h : W.heap[g]? = some (.cells #[.int .i64 x, .int .i64 y, .string d] t (0, 0))) :
    (∀ z, (fut F W z).cell? ⟨g, 0, none⟩ = some (.int .i64 x)) ∧ (∀ z, (fut F W z).cell? ⟨g, 1, none⟩ = some (.int .i64 y)) ∧ (∀ z, (fut F W z).cell? ⟨g, 2, none⟩ = some (.string d)) := by
  have h2 := fun z => (hF _ (fut_ok hr W z)).trans h
  exact ⟨fun z => (by rw [cell_of_row _ _ _ _ _ _ (h2 z)]; rfl), fun z => (by rw [cell_of_row _ _ _ _ _ _ (h2 z)]; rfl), fun z => (by rw [cell_of_row _ _ _ _ _ _ (h2 z)]; rfl)⟩
set_option maxRecDepth 100000 in
set_option maxHeartbeats 4000000 in
theorem pinned_one (A : Option Addr) (c : Nat) (s : Stm) (B : Option Addr) (k : Nat) (w : World) (hl : SRow w A 1 c [s]) (hp : PRow w B 1 k [⟨1, 1, s.dig⟩]) (hs : One s) (hst : Sto [s]) (hr : Rounds w) :
    Calls Tryz.prog 40 #[.agg #[.slice A 1 c], .slice B 1 k] w fun e w' => ∃ A2 c2, e = .returned (.tuple #[.slice A2 1 c2, .int .i64 0]) ∧ Below w.heap.size w w' := by
  have HV1 : Hid (∀ x, Below w.heap.size w x → Calls Tryz.prog 15 #[.agg #[.slice A 1 c]] x (SaysL (.bool true) x)) := Lib.hid fun x h => valid_any A 1 c [s] x (hl.later h) hst (hr.later h)
  have HAP : Hid (∀ x, Below w.heap.size w x → Calls Tryz.prog 71 #[.slice B 1 k] x (SaysL (.bool true) x)) := Lib.hid fun x h => arePins_one B k s.dig x (hp.later h) hs.dig
  have HOF : Hid (∀ x, Below w.heap.size w x → Calls Tryz.prog 32 #[.agg #[.slice A 1 c], .int .i64 1] x fun e w' => ∃ A2 c2, e = .returned (.slice A2 1 c2) ∧ SRow w' A2 1 c2 [s] ∧ Below x.heap.size x w') := Lib.hid fun x h => by
    have h1 := of_any A 1 c [s] x (hl.later h) (by omega) 1
    rw [hs.by 1, if_pos rfl] at h1
    refine Calls.mono h1 ?_
    rintro e w' ⟨A2, m, c2, rfl, hr, hb⟩
    have hm : m = 1 := hr.len.symm
    subst hm
    exact ⟨A2, c2, rfl, hr, hb⟩
  have HBR : Hid (∀ x A2 c2, Below w.heap.size w x → SRow x A2 1 c2 [s] → Calls Tryz.prog 72 #[.int .i64 1, .slice A2 1 c2, .string s.dig] x fun e w' => ∃ A3 c3, e = .returned (.tuple #[.slice A3 1 c3, .bool true]) ∧ SRow w' A3 1 c3 [s] ∧ Below x.heap.size x w') := Lib.hid fun x A2 c2 h hrow =>
    branch1_any 1 A2 1 c2 [s] x hrow hs.whole.good (by omega) (hr.later h) s.dig s ⟨by simp, rfl, fun y hy => by simp at hy, by
      intro p hp e
      have : p = pairS s := by simpa using hp
      rw [this] at e
      have h2 : s.dig.size = s.prev.size := congrArg ByteArray.size e
      rw [hs.dig, hs.prev] at h2
      exact absurd h2 (by decide)⟩ hs.num
  have HPR : Hid (∀ x, Below w.heap.size w x → PRow x B 1 k [⟨1, 1, s.dig⟩]) := Lib.hid fun x h => hp.later h
  clear hl hp hs hst hr
  have HB0 := Lib.hid (one_new w (.cells #[.slice A 1 c] 24))
  have HX0 := Lib.hid (heap_alloc_new w (.cells #[.slice A 1 c] 24))
  have hc0 := cell_of_row _ _ 0 _ _ _ HX0.out
  simp only [List.getElem?_toArray, List.getElem?_cons_zero] at hc0
  go_enter Tryz.func40, Tryz.ntmps40
  go_wp2_with fail
  clear hc0
  generalize w.alloc (.cells #[.slice A 1 c] 24) = w0 at HB0 HX0 ⊢
  have HZ0 : Hid (w.heap.size < w0.heap.size) := Lib.hid (Array.getElem?_eq_some_iff.1 HX0.out).1
  refine (HV1.out w0 HB0.out).mono ?_
  rintro e w1 ⟨rfl, hb⟩
  have HX1 := Lib.hid ((hb.block _ HZ0.out).trans HX0.out); have HB1 := Lib.hid (HB0.out.trans (hb.mono HB0.out.size)); have HZ1 : Hid (w.heap.size < w1.heap.size) := Lib.hid (Nat.lt_of_lt_of_le HZ0.out hb.size)
  clear hb HX0 HB0 HZ0 HV1
  go_wp2_with fail
  refine (HAP.out w1 HB1.out).mono ?_
  rintro e w2 ⟨rfl, hb⟩
  have HX2 := Lib.hid ((hb.block _ HZ1.out).trans HX1.out); have HB2 := Lib.hid (HB1.out.trans (hb.mono HB1.out.size)); have HZ2 : Hid (w.heap.size < w2.heap.size) := Lib.hid (Nat.lt_of_lt_of_le HZ1.out hb.size)
  clear hb HX1 HB1 HZ1 HAP
  go_wp2_with fail
  go_loopw [6, 21] (fun v i wr => (i = .int .i64 0 ∧ v = .slice none 0 0 ∧ wr = w2) ∨ (i = .int .i64 1 ∧ ∃ A2 c2, v = .slice A2 1 c2 ∧ Hid (Below w.heap.size w wr))) (fun _ i _ => 1 - (intOf i).toNat)
  case atStart => exact .inl ⟨rfl, rfl, rfl⟩
  case round =>
    rcases hrel with ⟨rfl, rfl, hw⟩ | ⟨rfl, A2, c2, rfl, HQ⟩
    · replace hw := hw.symm
      subst hw
      obtain ⟨b, off, hA, hp0, hp1, hp2⟩ := PRow.cells (HPR.out w2 HB2.out) 0 (by omega)
      subst hA
      have e0 : ([⟨1, 1, s.dig⟩] : List PinD).getD 0 noPin = ⟨1, 1, s.dig⟩ := rfl
      simp only [e0, Nat.zero_mul, Nat.add_zero] at hp0 hp1 hp2
      clear e0
      go_wp2_with (refine wpList_store_new rfl 57 (.tmp 8) (.tmp 24) rfl 57 _ #[.int .i64 1, .int .i64 1, .string s.dig] rfl rfl (by kernel_rfl) rfl (by simp [Value.oneCell']) ?_)
      clear hp0 hp1 hp2
      try dsimp only [Act.put]
      have HX3 : Hid ((w2.alloc (.cells #[.int .i64 1, .int .i64 1, .string s.dig] 57)).drew.heap[w.heap.size]? = some (.cells #[.slice A 1 c] 24 (0, 0))) := Lib.hid ((Below.heap_alloc _ _ _ HZ2.out).trans HX2.out)
      have HY3 : Hid ((w2.alloc (.cells #[.int .i64 1, .int .i64 1, .string s.dig] 57)).drew.heap[w2.heap.size]? = some (.cells #[.int .i64 1, .int .i64 1, .string s.dig] 57 (0, 0))) := Lib.hid (heap_alloc_new _ _)
      have HB3 : Hid (Below w.heap.size w (w2.alloc (.cells #[.int .i64 1, .int .i64 1, .string s.dig] 57)).drew) := Lib.hid (HB2.out.trans ((one_new w2 _).mono HB2.out.size)).drew
      refine wp_region_grow (by kernel_rfl) Later Later.refl (fun _ _ _ => Later.trans) [9, 10, 11, 12, 13] [([0, 1, 2, 3, 4, 6, 7], 5), ([], 8)] (by kernel_rfl) (by kernel_rfl) (by kernel_rfl) ?_
      simp only [List.map_cons, List.map_nil, pick, List.getD_cons_zero, List.getD_cons_succ]
      generalize (w2.alloc (.cells #[.int .i64 1, .int .i64 1, .string s.dig] 57)).drew = w3 at *
      have hlx : w.heap.size < w3.heap.size := (Array.getElem?_eq_some_iff.1 HX3.out).1
      have hly : w2.heap.size < w3.heap.size := (Array.getElem?_eq_some_iff.1 HY3.out).1
      obtain ⟨hf0, hf1, hf2⟩ := pin_futs3 (F := Later) Later.refl (W := w3) (fun w' h => h.block _ hly) HY3.out
      have hc0 : ∀ z, (fut Later w3 z).cell? ⟨w.heap.size, 0, none⟩ = some (.slice A 1 c) := fun z => by
        have h := fut_ok (F := Later) Later.refl w3 z
        have h2 := (h.block _ hlx).trans HX3.out
        have h3 := cell_of_row _ _ 0 _ _ _ h2
        simpa using h3
      have HLY := Lib.hid hly
      refine wpGrow_cons ?_
      repeat (go_big_quiet_step (fail))
      refine wpQuiet_nil ?_
      clear hf0 hf1 hf2 hc0 hlx hly
      go_wp2_with fail
      refine (HOF.out w3 HB3.out).mono ?_
      rintro e w4 ⟨A2, c2, rfl, hrow, hb⟩
      have HR4 := Lib.hid hrow; have HB4 := Lib.hid (HB3.out.trans (hb.mono HB3.out.size)); have HF4 : Hid (Later w3 w4) := Lib.hid hb; have HY4 := Lib.hid ((hb.block _ HLY.out).trans HY3.out)
      have HLY4 : Hid (w2.heap.size < w4.heap.size) := Lib.hid (Nat.lt_of_lt_of_le HLY.out hb.size)
      clear hrow hb HOF HX3 HY3 HLY
      go_wp2_with fail
      refine pieceEnd_normal ⟨HF4.out, ?_⟩
      refine wpGrow_cons ?_
      refine wpQuiet_nil ?_
      go_wp2_with fail
      refine (HBR.out w4 A2 c2 HB4.out HR4.out).mono ?_
      rintro e w5 ⟨A3, c3, rfl, hrow, hb⟩
      have HR5 := Lib.hid hrow; have HB5 := Lib.hid (HB4.out.trans (hb.mono HB4.out.size)); have HF5 : Hid (Later w4 w5) := Lib.hid hb; have HY5 := Lib.hid ((hb.block _ HLY4.out).trans HY4.out)
      clear hrow hb HBR HY4 HLY4 HR4 HF4
      go_wp2_with fail
      refine pieceEnd_normal ⟨HF5.out, ?_⟩
      refine wpGrow_nil ?_
      repeat (go_big_quiet_step (fail))
      refine wpQuiet_nil ?_
      have hd1 := cell_of_row _ _ 1 _ _ _ HY5.out
      simp only [List.getElem?_toArray, List.getElem?_cons_succ, List.getElem?_cons_zero] at hd1
      go_wp2_with (at_builtin; go_must (refine wpList_app _ rfl (.tmp 46) (.tmp 47) 22 22 30 rfl w5.heap.size Tryz.underlying22 stm_info2 rfl _ 0 [] (World.ownsRow_nil _ _ _ _) rfl _ 1 (stmsC [s]) (HR5.out.src Tryz.underlying22 (stmsC_one _)) rfl (by unfold maxLen; omega) (by omega) (Nat.le_refl _) ?_); intro x3 z3 ho hb; obtain ⟨A6, c6, hv6, hr6⟩ := Row.of_own ho; subst hv6; have HB6 := Lib.hid (HB5.out.trans (hb.mono HB5.out.size)); clear ho hb hr6)
      exact ⟨.inr ⟨rfl, _, _, rfl, HB6⟩, by simp [intOf]⟩
    · go_wp2_with fail
      go_ret2
      exact ⟨_, _, rfl, HQ.out⟩
end Go.Proofs.YtnjilfdmplbalaaGreatDoor
