import Derived.Test.YtnmpbjgccbnomaaGreatPackAN
import Derived.Test.YtnmpbjgccbnomaaGreatPackAG
import Derived.Test.YtnmpbjgccbnomaaGreatPackAC
import Derived.Test.YtnmpbjgccbnomaaGreatPackAK
import Derived.Test.YtnmpbjgccbnomaaGreatRefSameP
import Derived.Test.YtnmpbjgccbnomaaGreatRefCheckP
import Derived.LoopN
/- The walk of the reference's put over any list. -/
namespace Go.Proofs.YtnmpbjgccbnomaaGreat
open Go.RowKit
/-- How many at the beginning a test holds of. -/
def posK (f : Stm → Bool) : List Stm → Nat
  | [] => 0
  | a :: l => if f a then posK f l + 1 else 0
theorem posK_le (f : Stm → Bool) : ∀ l : List Stm, posK f l ≤ l.length
  | [] => Nat.le_refl _
  | a :: l => by
    unfold posK
    split
    · exact Nat.succ_le_succ (posK_le f l)
    · exact Nat.zero_le _
theorem posK_lo (f : Stm → Bool) : ∀ (l : List Stm) (i : Nat), i < posK f l → f (l.getD i noStm) = true
  | [], i, h => absurd h (Nat.not_lt_zero _)
  | a :: l, i, h => by
    unfold posK at h
    split at h
    · rename_i hs
      cases i with
      | zero => exact hs
      | succ i => exact posK_lo f l i (Nat.lt_of_succ_lt_succ h)
    · exact absurd h (Nat.not_lt_zero _)
theorem posK_hi (f : Stm → Bool) : ∀ l : List Stm, posK f l < l.length → f (l.getD (posK f l) noStm) = false
  | [], h => absurd h (Nat.not_lt_zero _)
  | a :: l, h => by
    unfold posK at h ⊢
    split
    · rename_i hs
      rw [if_pos hs] at h
      exact posK_hi f l (Nat.lt_of_succ_lt_succ h)
    · rename_i hs
      simpa using hs
def putK (l : List Stm) (x : Stm) : Nat := posK (fun a => beforeB a x) l
/-- Whether it is there. -/
def putHas (l : List Stm) (x : Stm) : Bool := decide (putK l x < l.length) && sameS (l.getD (putK l x) noStm) x
def putS (l : List Stm) (x : Stm) : List Stm := if putHas l x then l else l.take (putK l x) ++ x :: l.drop (putK l x)
theorem putS_mem {l : List Stm} {x s : Stm} (h : s ∈ putS l x) : s = x ∨ s ∈ l := by
  unfold putS at h
  split at h
  · exact .inr h
  · rcases List.mem_append.1 h with h | h
    · exact .inr (List.mem_of_mem_take h)
    · rcases List.mem_cons.1 h with h | h
      · exact .inl h
      · exact .inr (List.mem_of_mem_drop h)
theorem putS_len (l : List Stm) (x : Stm) : (putS l x).length ≤ l.length + 1 := by
  unfold putS
  split
  · omega
  · have := posK_le (fun a => beforeB a x) l
    simp only [List.length_append, List.length_cons, List.length_take, List.length_drop]
    unfold putK
    omega
set_option maxRecDepth 100000 in
set_option maxHeartbeats 4000000 in
theorem beforeP_any (p q : Pl) (w : World) : Calls Tryz.prog 94 #[.agg p.arr, .agg q.arr] w (SaysL (.bool (beforeB p.s q.s)) w) := by
  have HV : Hid (beforeB p.s q.s = if p.s.author = q.s.author then (if p.s.number = q.s.number then Op.bytesLess p.s.dig.toList q.s.dig.toList else decide (p.s.number < q.s.number)) else decide (p.s.author < q.s.author)) := Lib.hid rfl
  generalize beforeB p.s q.s = bb at HV ⊢
  have HX : Hid (((w.alloc (.cells p.arr 48)).alloc (.cells q.arr 48)).heap[w.heap.size]? = some (.cells p.arr 48 (0, 0))) := Lib.hid ((Below.heap_alloc _ _ _ (by simp)).trans (heap_alloc_new _ _))
  have HY : Hid (((w.alloc (.cells p.arr 48)).alloc (.cells q.arr 48)).heap[w.heap.size + 1]? = some (.cells q.arr 48 (0, 0))) := Lib.hid (heap_alloc2_new _ _ _)
  have HB : Hid (Below w.heap.size w ((w.alloc (.cells p.arr 48)).alloc (.cells q.arr 48))) := Lib.hid ((one_new w _).trans ((one_new _ _).mono (by simp)))
  go_enter Tryz.func94, Tryz.ntmps94
  have hc0 : ((w.alloc (.cells p.arr 48)).alloc (.cells q.arr 48)).cell? ⟨w.heap.size, 0, none⟩ = some (.int .i64 p.s.author) := (cell_of_row _ _ 0 _ _ _ HX.out).trans rfl
  have hc1 : ((w.alloc (.cells p.arr 48)).alloc (.cells q.arr 48)).cell? ⟨w.heap.size, 1, none⟩ = some (.int .i64 p.s.number) := (cell_of_row _ _ 1 _ _ _ HX.out).trans rfl
  have hc12 : ((w.alloc (.cells p.arr 48)).alloc (.cells q.arr 48)).cell? ⟨w.heap.size, 12, none⟩ = some (.string p.s.dig) := (cell_of_row _ _ 12 _ _ _ HX.out).trans rfl
  have hd0 : ((w.alloc (.cells p.arr 48)).alloc (.cells q.arr 48)).cell? ⟨w.heap.size + 1, 0, none⟩ = some (.int .i64 q.s.author) := (cell_of_row _ _ 0 _ _ _ HY.out).trans rfl
  have hd1 : ((w.alloc (.cells p.arr 48)).alloc (.cells q.arr 48)).cell? ⟨w.heap.size + 1, 1, none⟩ = some (.int .i64 q.s.number) := (cell_of_row _ _ 1 _ _ _ HY.out).trans rfl
  have hd12 : ((w.alloc (.cells p.arr 48)).alloc (.cells q.arr 48)).cell? ⟨w.heap.size + 1, 12, none⟩ = some (.string q.s.dig) := (cell_of_row _ _ 12 _ _ _ HY.out).trans rfl
  clear HX HY
  by_cases e0 : p.s.author = q.s.author
  · have b0 : (p.s.author != q.s.author) = false := by rw [e0]; simp
    rw [if_pos e0] at HV
    clear e0
    by_cases e1 : p.s.number = q.s.number
    · have b1 : (p.s.number != q.s.number) = false := by rw [e1]; simp
      rw [if_pos e1] at HV
      clear e1
      go_wp2_with fail
      go_ret
      exact ⟨by rw [HV.out]; first | done | rfl, HB.out⟩
    · have b1 : (p.s.number != q.s.number) = true := by rw [bne_iff_ne]; exact e1
      rw [if_neg e1] at HV
      clear e1
      go_wp2_with fail
      go_ret
      exact ⟨by rw [HV.out]; first | done | rfl, HB.out⟩
  · have b0 : (p.s.author != q.s.author) = true := by rw [bne_iff_ne]; exact e0
    rw [if_neg e0] at HV
    clear e0
    go_wp2_with fail
    go_ret
    exact ⟨by rw [HV.out]; first | done | rfl, HB.out⟩
set_option maxRecDepth 100000 in
set_option maxHeartbeats 4000000 in
theorem putP_any (A : Option Addr) (n c : Nat) (l : List Pl) (p : Pl) (w : World) (hl : LRow w A n c l) (hn : n ≤ 100000) (hp : PlOk w p) (hs : ∀ q ∈ l, Small q.s) (hsp : Small p.s) :
    Calls Tryz.prog 67 #[.slice A n c, .agg p.arr] w fun e w' => ∃ A2 c2 l', e = .returned (.tuple #[.slice A2 (List.length l') c2, .bool (!putHas (l.map (·.s)) p.s)]) ∧ l'.map (·.s) = putS (l.map (·.s)) p.s ∧ LRow w' A2 l'.length c2 l' ∧ Below w.heap.size w w' := by
  have HL := Lib.hid hl; have HLN := Lib.hid hl.len; have HP := Lib.hid hp
  have HKP : Hid (putK (l.map (·.s)) p.s ≤ n ∧ (∀ i, i < putK (l.map (·.s)) p.s → beforeB (l.getD i noPl).s p.s = true) ∧ (putK (l.map (·.s)) p.s < n → beforeB (l.getD (putK (l.map (·.s)) p.s) noPl).s p.s = false)) := Lib.hid
    ⟨by have := posK_le (fun a => beforeB a p.s) (l.map (·.s)); rw [List.length_map, hl.len] at this; exact this, fun i h => by rw [← getD_s]; exact posK_lo (fun a => beforeB a p.s) _ i h, fun h => by rw [← getD_s]; exact posK_hi (fun a => beforeB a p.s) _ (by rw [List.length_map, hl.len]; exact h)⟩
  have HHAS : Hid (putHas (l.map (·.s)) p.s = (decide (putK (l.map (·.s)) p.s < n) && sameS (l.getD (putK (l.map (·.s)) p.s) noPl).s p.s)) := Lib.hid (by rw [putHas, getD_s, List.length_map, hl.len])
  have HPU : Hid (putS (l.map (·.s)) p.s = if putHas (l.map (·.s)) p.s then l.map (·.s) else (l.take (putK (l.map (·.s)) p.s)).map (·.s) ++ p.s :: (l.drop (putK (l.map (·.s)) p.s)).map (·.s)) := Lib.hid (by rw [putS, List.map_take, List.map_drop])
  have HCP : Hid (∀ y, Below w.heap.size w y → Calls Tryz.prog 44 #[.agg p.arr] y (GivesP y p.s)) := Lib.hid fun y h => copyP_any p y (hp.later h) hsp
  have HSA : Hid (∀ y q, q ∈ l → Below w.heap.size w y → Calls Tryz.prog 65 #[.agg q.arr, .agg p.arr] y (SaysL (.bool (sameS q.s p.s)) y)) := Lib.hid fun y q hq h => sameP_any q p y ((hl.ok q hq).later h) (hp.later h) (hs q hq)
  have HBE : Hid (∀ (y : World) (q : Pl), Calls Tryz.prog 94 #[.agg q.arr, .agg p.arr] y (SaysL (.bool (beforeB q.s p.s)) y)) := Lib.hid fun y q => beforeP_any q p y
  generalize putK (l.map (·.s)) p.s = K at HKP HHAS HPU
  generalize putHas (l.map (·.s)) p.s = PH at HHAS HPU ⊢
  generalize putS (l.map (·.s)) p.s = PS at HPU ⊢
  have hK := HKP.out.1
  clear hl hp hs hsp
  go_enter Tryz.func67, Tryz.ntmps67
  go_wp2_with fail
  have HNW := Lib.hid (one_new w (.cells p.arr 48))
  have HG : Hid ((w.alloc (.cells p.arr 48)).heap[w.heap.size]? = some (.cells p.arr 48 (0, 0))) := Lib.hid (heap_alloc_new _ _)
  generalize w.alloc (.cells p.arr 48) = y0 at *
  have HGL : Hid (w.heap.size < y0.heap.size) := Lib.hid (Array.getElem?_eq_some_iff.1 HG.out).1
  have HL1 := Lib.hid (HL.out.later HNW.out)
  go_loopw [6] (fun i wr => ∃ q : Nat, q ≤ K ∧ i = .int .i64 q ∧ Hid (Below y0.heap.size y0 wr)) (fun i _ => K - (intOf i).toNat)
  case atStart => exact ⟨0, Nat.zero_le _, rfl, Lib.hid (Below.refl _ _)⟩
  case round =>
    obtain ⟨q, hq, rfl, HQ⟩ := hrel
    by_cases hqK : q < K
    · have hsb := HKP.out.2.1 q hqK
      have hql : q < n := by omega
      have hlt9 : (q : Int) < (n : Int) := by omega
      go_wp2_with fail
      refine wp_region_grow (by kernel_rfl) Later Later.refl (fun _ _ _ => Later.trans) [11] [([0, 1, 2, 3, 4, 5, 6, 7, 8, 9], 10)] (by kernel_rfl) (by kernel_rfl) (by kernel_rfl) ?_
      simp only [List.map_cons, List.map_nil, pick, List.getD_cons_zero, List.getD_cons_succ]
      have HB4 : Hid (Below y0.heap.size y0 wr.drew) := Lib.hid HQ.out.drew
      clear HQ
      generalize wr.drew = z4 at *
      obtain ⟨b2, off2, hA2, hf⟩ := LRow.futs (F := Later) Later.refl (fun _ h => h) (HL1.out.later HB4.out) q hql
      first | subst hA2 | (injection hA2 with hA2; injection hA2 with h1 h2; subst h1 h2)
      generalize hae : l.getD q noPl = a at *
      have HAE := Lib.hid hae; clear hae
      have hf2 := cells_futs hf
      have hg2 : ∀ x, (loadVar 48 ⟨w.heap.size, 0, none⟩).run Tryz.prog (fut Later z4 x) = .ok (.agg p.arr) (fut Later z4 x) := cells_futs (p := p) (off := 0) fun x j _ => box_futs (F := Later) Later.refl (fun _ h => h.block _ (Nat.lt_of_lt_of_le HGL.out HB4.out.size)) ((HB4.out.block _ HGL.out).trans HG.out) x j
      clear hf
      refine wpGrow_cons ?_
      repeat (first | (refine wpQuiet_load rfl 48 (.tmp 14) rfl ⟨b2, off2 + q * 13, none⟩ rfl (.agg a.arr) (fun w' h => by obtain ⟨x, rfl⟩ := h; exact hf2 x) ?_; simp only [Act.put, List.setIfInBounds_toArray, List.set_cons_succ, List.set_cons_zero]) | (refine wpQuiet_load rfl 48 (.tmp 3) rfl ⟨w.heap.size, 0, none⟩ rfl (.agg p.arr) (fun w' h => by obtain ⟨x, rfl⟩ := h; exact hg2 x) ?_; simp only [Act.put, List.setIfInBounds_toArray, List.set_cons_succ, List.set_cons_zero]) | go_big_quiet_step (fail))
      refine wpQuiet_nil ?_
      clear hf2 hg2
      go_wp2_with fail
      refine (HBE.out z4 a).mono ?_
      rintro e w5 ⟨rfl, hb⟩
      have HF : Hid (Later z4 w5) := Lib.hid hb; have HB6 := Lib.hid (HB4.out.trans (hb.mono HB4.out.size)); clear hb HB4
      rw [show beforeB a.s p.s = true by first | exact hsb | (rw [← HAE.out]; exact hsb)]
      clear hsb
      go_wp2_with fail
      refine pieceEnd_normal ⟨HF.out, ?_⟩
      clear HF
      refine wpGrow_nil ?_
      repeat (go_big_quiet_step (fail))
      refine wpQuiet_nil ?_
      go_wp2_with fail
      exact ⟨⟨q + 1, by omega, by go_num, HB6⟩, by simp [intOf]; omega⟩
    · have hqe : K = q := by omega
      subst hqe
      clear hqK hq
      by_cases hql : K < n
      · have hsb := HKP.out.2.2 hql
        have HAM : Hid (l.getD K noPl ∈ l) := Lib.hid (HL.out.get K hql)
        have hlt9 : (K : Int) < (n : Int) := by omega
        clear HKP
        go_wp2_with fail
        refine wp_region_grow (by kernel_rfl) Later Later.refl (fun _ _ _ => Later.trans) [11] [([0, 1, 2, 3, 4, 5, 6, 7, 8, 9], 10)] (by kernel_rfl) (by kernel_rfl) (by kernel_rfl) ?_
        simp only [List.map_cons, List.map_nil, pick, List.getD_cons_zero, List.getD_cons_succ]
        have HB4 : Hid (Below y0.heap.size y0 wr.drew) := Lib.hid HQ.out.drew
        clear HQ
        generalize wr.drew = z4 at *
        obtain ⟨b2, off2, hA2, hf⟩ := LRow.futs (F := Later) Later.refl (fun _ h => h) (HL1.out.later HB4.out) K hql
        first | subst hA2 | (injection hA2 with hA2; injection hA2 with h1 h2; subst h1 h2)
        generalize hae : l.getD K noPl = a at *
        have HAE := Lib.hid hae; clear hae
        have hf2 := cells_futs hf
        have hg2 : ∀ x, (loadVar 48 ⟨w.heap.size, 0, none⟩).run Tryz.prog (fut Later z4 x) = .ok (.agg p.arr) (fut Later z4 x) := cells_futs (p := p) (off := 0) fun x j _ => box_futs (F := Later) Later.refl (fun _ h => h.block _ (Nat.lt_of_lt_of_le HGL.out HB4.out.size)) ((HB4.out.block _ HGL.out).trans HG.out) x j
        clear hf
        refine wpGrow_cons ?_
        repeat (first | (refine wpQuiet_load rfl 48 (.tmp 14) rfl ⟨b2, off2 + K * 13, none⟩ rfl (.agg a.arr) (fun w' h => by obtain ⟨x, rfl⟩ := h; exact hf2 x) ?_; simp only [Act.put, List.setIfInBounds_toArray, List.set_cons_succ, List.set_cons_zero]) | (refine wpQuiet_load rfl 48 (.tmp 3) rfl ⟨w.heap.size, 0, none⟩ rfl (.agg p.arr) (fun w' h => by obtain ⟨x, rfl⟩ := h; exact hg2 x) ?_; simp only [Act.put, List.setIfInBounds_toArray, List.set_cons_succ, List.set_cons_zero]) | go_big_quiet_step (fail))
        refine wpQuiet_nil ?_
        clear hf2 hg2
        go_wp2_with fail
        refine (HBE.out z4 a).mono ?_
        rintro e w5 ⟨rfl, hb⟩
        have HF : Hid (Later z4 w5) := Lib.hid hb; have HB6 := Lib.hid (HB4.out.trans (hb.mono HB4.out.size)); clear hb HB4
        rw [show beforeB a.s p.s = false by first | exact hsb | (rw [← HAE.out]; exact hsb)]
        clear hsb
        go_wp2_with fail
        refine pieceEnd_normal ⟨HF.out, ?_⟩
        clear HF
        refine wpGrow_nil ?_
        repeat (go_big_quiet_step (fail))
        refine wpQuiet_nil ?_
        go_wp2_with fail
        refine wp_region_grow (by kernel_rfl) Later Later.refl (fun _ _ _ => Later.trans) [11] [([0, 1, 2, 3, 4, 5, 6, 7, 8, 9], 10)] (by kernel_rfl) (by kernel_rfl) (by kernel_rfl) ?_
        simp only [List.map_cons, List.map_nil, pick, List.getD_cons_zero, List.getD_cons_succ]
        have HB4 : Hid (Below y0.heap.size y0 w5.drew) := Lib.hid HB6.out.drew
        clear HB6
        generalize w5.drew = z6 at *
        obtain ⟨b3, off3, hA3, hf⟩ := LRow.futs (F := Later) Later.refl (fun _ h => h) (HL1.out.later HB4.out) K hql
        injection hA3 with hA3
        injection hA3 with h1 h2
        subst h1 h2
        rw [HAE.out] at hf
        have hf2 := cells_futs hf
        have hg2 : ∀ x, (loadVar 48 ⟨w.heap.size, 0, none⟩).run Tryz.prog (fut Later z6 x) = .ok (.agg p.arr) (fut Later z6 x) := cells_futs (p := p) (off := 0) fun x j _ => box_futs (F := Later) Later.refl (fun _ h => h.block _ (Nat.lt_of_lt_of_le HGL.out HB4.out.size)) ((HB4.out.block _ HGL.out).trans HG.out) x j
        clear hf
        refine wpGrow_cons ?_
        repeat (first | (refine wpQuiet_load rfl 48 (.tmp 28) rfl ⟨b2, off2 + K * 13, none⟩ rfl (.agg a.arr) (fun w' h => by obtain ⟨x, rfl⟩ := h; exact hf2 x) ?_; simp only [Act.put, List.setIfInBounds_toArray, List.set_cons_succ, List.set_cons_zero]) | (refine wpQuiet_load rfl 48 (.tmp 3) rfl ⟨w.heap.size, 0, none⟩ rfl (.agg p.arr) (fun w' h => by obtain ⟨x, rfl⟩ := h; exact hg2 x) ?_; simp only [Act.put, List.setIfInBounds_toArray, List.set_cons_succ, List.set_cons_zero]) | go_big_quiet_step (fail))
        refine wpQuiet_nil ?_
        clear hf2 hg2
        go_wp2_with fail
        refine (HSA.out z6 a HAM.out (HNW.out.trans (HB4.out.mono HNW.out.size))).mono ?_
        rintro e w7 ⟨rfl, hb⟩
        have HF : Hid (Later z6 w7) := Lib.hid hb; have HB8 := Lib.hid (HB4.out.trans (hb.mono HB4.out.size)); clear hb HB4
        by_cases hbb : sameS a.s p.s = true
        · have HPH : Hid (PH = true) := Lib.hid (by rw [HHAS.out, hbb, decide_eq_true hql]; rfl)
          rw [hbb]
          clear hbb
          go_wp2_with fail
          refine pieceEnd_normal ⟨HF.out, ?_⟩
          clear HF
          refine wpGrow_nil ?_
          repeat (go_big_quiet_step (fail))
          refine wpQuiet_nil ?_
          go_wp2_with fail
          go_ret2
          have HR9 := Lib.hid (HL1.out.later HB8.out)
          have HLN9 := HLN.out
          subst HLN9
          exact ⟨_, c, l, by rw [HPH.out]; rfl, by rw [HPU.out, HPH.out]; rfl, HR9.out, HNW.out.trans (HB8.out.mono HNW.out.size)⟩
        · have HPH : Hid (PH = false) := Lib.hid (by rw [HHAS.out, show sameS a.s p.s = false by simpa using hbb, Bool.and_false])
          rw [show sameS a.s p.s = false by simpa using hbb]
          clear hbb
          go_wp2_with fail
          refine pieceEnd_normal ⟨HF.out, ?_⟩
          clear HF
          refine wpGrow_nil ?_
          repeat (go_big_quiet_step (fail))
          refine wpQuiet_nil ?_
          go_wp2_with fail
          clear HAE HAM
          have hs1 := fun w' => run_slice_to (P := Tryz.prog) (t := 27) Tryz.underlying27 stm_size6 (w0 := w) HL.out.row (i := (K : Int)) rfl hK .i64 w'
          have hs2 := fun w' => run_slice_from (P := Tryz.prog) (t := 27) Tryz.underlying27 stm_size6 (A := (some ⟨b2, off2, none⟩)) (n := n) (c := c) (k := K) (i := (K : Int)) rfl hK .i64 w'
          refine wp_region_grow (by kernel_rfl) (Below w7.drew.heap.size) (Below.refl w7.drew.heap.size) (fun _ _ _ => Below.trans) [12, 13] [([0, 1, 2, 4, 8, 9, 10], 3), ([], 5), ([], 6), ([], 7), ([], 11)] (by kernel_rfl) (by kernel_rfl) (by kernel_rfl) ?_
          simp only [List.map_cons, List.map_nil, pick, List.getD_cons_zero, List.getD_cons_succ]
          have HB5 : Hid (Below y0.heap.size y0 w7.drew) := Lib.hid HB8.out.drew
          clear HB8
          generalize w7.drew = u0 at *
          have HLT := Lib.hid ((HL1.out.later HB5.out).take K hK); have HLD := Lib.hid ((HL1.out.later HB5.out).drop K hK)
          have HB7 : Hid (Below w.heap.size w u0) := Lib.hid (HNW.out.trans (HB5.out.mono HNW.out.size))
          have hk1 : (l.take K).length = K := by rw [List.length_take]; have := HLN.out; omega
          have hk2 : (l.drop K).length = n - K := by rw [List.length_drop, HLN.out]
          generalize dropA (some ⟨b2, off2, none⟩) c K 13 = AD at hs2 HLD
          generalize l.take K = l1 at *
          generalize l.drop K = l2 at *
          have hgl : ∀ x, (loadVar 48 ⟨w.heap.size, 0, none⟩).run Tryz.prog (fut (Below u0.heap.size) u0 x) = .ok (.agg p.arr) (fut (Below u0.heap.size) u0 x) := cells_futs (p := p) (off := 0) fun x j _ => box_futs (F := Below u0.heap.size) (Below.refl u0.heap.size) (fun _ h => h.block _ (Nat.lt_of_lt_of_le HGL.out HB5.out.size)) ((HB5.out.block _ HGL.out).trans HG.out) x j
          refine wpGrow_cons ?_
          repeat (first | (refine wpQuiet_load rfl 48 (.tmp 3) rfl ⟨w.heap.size, 0, none⟩ rfl (.agg p.arr) (fun w' h => by obtain ⟨x, rfl⟩ := h; exact hgl x) ?_; simp only [Act.put, List.setIfInBounds_toArray, List.set_cons_succ, List.set_cons_zero]) | go_big_quiet_step (fail))
          refine wpQuiet_nil ?_
          clear hs1 hs2 hgl
          go_wp2_with (at_builtin; go_must (refine wpList_app u0 rfl (.const (.slice none 0 0)) (.tmp 36) 27 27 48 rfl u0.heap.size Tryz.underlying27 stm_info rfl _ 0 [] (World.ownsRow_nil _ _ _ _) rfl _ K (plsC l1) (Row.src HLT.out.row Tryz.underlying27 (plsC_one _)) rfl (by unfold maxLen; omega) (by omega) (Nat.le_refl _) ?_); intro v1 z1 ho hb; rw [Nat.zero_add, List.nil_append, ← hk1] at ho; have HO1 : Hid (LOwn z1 u0.heap.size v1 l1) := Lib.hid ⟨ho, fun r hr => ⟨(HLT.out.ok r hr).later hb, (HLT.out.ok r hr).clear (own_ge ho)⟩⟩; have HU := Lib.hid hb; clear ho hb)
          refine pieceEnd_normal ⟨HU.out, ?_⟩
          refine wpGrow_cons ?_
          refine wpQuiet_nil ?_
          go_wp2_with fail
          refine (HCP.out z1 (HB7.out.trans (HU.out.mono HB7.out.size))).mono ?_
          rintro e z2 ⟨r, rfl, hrs, hro, hna, hnb, hb⟩
          have HRS := Lib.hid hrs; have HRO := Lib.hid hro
          have HCL := Lib.hid (clear_new (q := r) hna hnb (own_lt HO1.out.own))
          have HF : Hid (Below u0.heap.size z1 z2) := Lib.hid (hb.mono HU.out.size)
          have HO2 := Lib.hid (HO1.out.later hb); replace HU := Lib.hid (HU.out.trans HF.out)
          clear hrs hro hna hnb hb HO1
          go_wp2_with fail
          refine pieceEnd_normal ⟨HF.out, ?_⟩
          clear HF
          refine wpGrow_cons ?_
          refine wpQuiet_nil ?_
          have hvs : r.arr.size = 13 := rfl
          go_wp2_with fail
          (first | rw [fold13] | (rw [← hvs, fold13]))
          refine pieceEnd_normal ⟨(one_new z2 _).mono HU.out.size, ?_⟩
          have HNX := Lib.hid (one_new z2 (.cells r.arr 48))
          have HR3 : Hid (Row (z2.alloc (.cells r.arr 48)) (some ⟨z2.heap.size, 0, none⟩) 1 1 13 (plsC [r])) := Lib.hid (Row.of_block (heap_alloc_new _ _) rfl)
          replace HRO := Lib.hid (HRO.out.later HNX.out)
          have HO3 := Lib.hid (HO2.out.later HNX.out)
          replace HU := Lib.hid (HU.out.trans (HNX.out.mono HU.out.size))
          clear HO2 HNX
          generalize z2.alloc (.cells r.arr 48) = z3 at *
          refine wpGrow_cons ?_
          refine wpQuiet_nil ?_
          go_wp2_with (at_builtin; go_must (refine wpList_app2 z3 rfl (.tmp 37) (.tmp 40) 27 27 48 rfl u0.heap.size Tryz.underlying27 stm_info rfl _ l1.length (plsC l1) HO3.out.own rfl (.slice (some ⟨z2.heap.size, 0, none⟩) 1 1) 1 (plsC [r]) (Row.src HR3.out Tryz.underlying27 (plsC_one _)) rfl (by unfold maxLen; omega) (by omega) HU.out.size ?_); intro v4 z4 ho hb hkp hv; have HO4 := Lib.hid (HO3.out.app (m := [r]) (fun x hx => by rw [List.mem_singleton.1 hx]; exact ⟨HRO.out, HCL.out⟩) ho hkp hv); have HF : Hid (Below u0.heap.size z3 z4) := Lib.hid hb; replace HU := Lib.hid (HU.out.trans hb); clear ho hb hkp hv)
          refine pieceEnd_normal ⟨HF.out, ?_⟩
          clear HF HR3 HO3
          refine wpGrow_cons ?_
          refine wpQuiet_nil ?_
          have HD4 := Lib.hid (HLD.out.later HU.out)
          have HC4 : Hid (∀ x ∈ l2, PlOk z4 x ∧ Clear v4 x) := Lib.hid fun x hx => ⟨HD4.out.ok x hx, (HLD.out.ok x hx).clear (own_ge HO4.out.own)⟩
          have hk4 : (l1 ++ [r]).length = K + 1 := by rw [List.length_append, hk1]; rfl
          go_wp2_with (at_builtin; go_must (refine wpList_app2 z4 rfl (.tmp 41) (.tmp 44) 27 27 48 rfl u0.heap.size Tryz.underlying27 stm_info rfl _ (l1 ++ [r]).length _ HO4.out.own rfl _ (n - K) (plsC l2) (Row.src HD4.out.row Tryz.underlying27 (plsC_one _)) rfl (by unfold maxLen; omega) (by omega) HU.out.size ?_); intro v5 z5 ho hb hkp hv; rw [← hk2] at ho; have HO5 := Lib.hid (HO4.out.app (m := l2) HC4.out ho hkp hv); have HF : Hid (Below u0.heap.size z4 z5) := Lib.hid hb; replace HU := Lib.hid (HU.out.trans hb); clear ho hb hkp hv)
          refine pieceEnd_normal ⟨HF.out, ?_⟩
          clear HF HO4 HD4 HC4
          refine wpGrow_nil ?_
          repeat (go_big_quiet_step (fail))
          refine wpQuiet_nil ?_
          obtain ⟨A5, c5, hv5, hr5⟩ := HO5.out.row
          have HR5 := Lib.hid hr5; clear hr5
          subst hv5
          go_wp2_with fail
          go_ret2
          exact ⟨A5, c5, l1 ++ [r] ++ l2, by rw [HPH.out]; rfl, by rw [HPU.out, HPH.out, List.map_append, List.map_append, List.map_cons, List.map_nil, HRS.out, List.append_assoc]; rfl, HR5.out, HB7.out.trans (HU.out.mono HB7.out.size)⟩
      · have hlt9 : ¬ (K : Int) < (n : Int) := by omega
        have HPH : Hid (PH = false) := Lib.hid (by rw [HHAS.out, decide_eq_false hql, Bool.false_and])
        clear HKP
        go_wp2_with fail
        refine wp_region_grow (by kernel_rfl) Later Later.refl (fun _ _ _ => Later.trans) [11] [([0, 1, 2, 3, 4, 5, 6, 7, 8, 9], 10)] (by kernel_rfl) (by kernel_rfl) (by kernel_rfl) ?_
        simp only [List.map_cons, List.map_nil, pick, List.getD_cons_zero, List.getD_cons_succ]
        have HB3 : Hid (Below y0.heap.size y0 wr.drew) := Lib.hid HQ.out.drew
        clear HQ
        generalize wr.drew = z0 at *
        refine wpGrow_cons ?_
        repeat (go_big_quiet_step (fail))
        refine wpQuiet_nil ?_
        go_wp2_with fail
        have HF : Hid (Later z0 z0) := Lib.hid (Later.refl _)
        go_wp2_with fail
        refine pieceEnd_normal ⟨HF.out, ?_⟩
        clear HF
        refine wpGrow_nil ?_
        repeat (go_big_quiet_step (fail))
        refine wpQuiet_nil ?_
        go_wp2_with fail
        refine wp_region_grow (by kernel_rfl) Later Later.refl (fun _ _ _ => Later.trans) [11] [([0, 1, 2, 3, 4, 5, 6, 7, 8, 9], 10)] (by kernel_rfl) (by kernel_rfl) (by kernel_rfl) ?_
        simp only [List.map_cons, List.map_nil, pick, List.getD_cons_zero, List.getD_cons_succ]
        have HB4 : Hid (Below y0.heap.size y0 z0.drew) := Lib.hid HB3.out.drew
        clear HB3
        generalize z0.drew = z4 at *
        refine wpGrow_cons ?_
        repeat (go_big_quiet_step (fail))
        refine wpQuiet_nil ?_
        go_wp2_with fail
        have HF : Hid (Later z4 z4) := Lib.hid (Later.refl _)
        go_wp2_with fail
        refine pieceEnd_normal ⟨HF.out, ?_⟩
        clear HF
        refine wpGrow_nil ?_
        repeat (go_big_quiet_step (fail))
        refine wpQuiet_nil ?_
        go_wp2_with fail
        have hs1 := fun w' => run_slice_to (P := Tryz.prog) (t := 27) Tryz.underlying27 stm_size6 (w0 := w) HL.out.row (i := (K : Int)) rfl hK .i64 w'
        have hs2 := fun w' => run_slice_from (P := Tryz.prog) (t := 27) Tryz.underlying27 stm_size6 (A := A) (n := n) (c := c) (k := K) (i := (K : Int)) rfl hK .i64 w'
        refine wp_region_grow (by kernel_rfl) (Below z4.drew.heap.size) (Below.refl z4.drew.heap.size) (fun _ _ _ => Below.trans) [12, 13] [([0, 1, 2, 4, 8, 9, 10], 3), ([], 5), ([], 6), ([], 7), ([], 11)] (by kernel_rfl) (by kernel_rfl) (by kernel_rfl) ?_
        simp only [List.map_cons, List.map_nil, pick, List.getD_cons_zero, List.getD_cons_succ]
        have HB5 : Hid (Below y0.heap.size y0 z4.drew) := Lib.hid HB4.out.drew
        clear HB4
        generalize z4.drew = u0 at *
        have HLT := Lib.hid ((HL1.out.later HB5.out).take K hK); have HLD := Lib.hid ((HL1.out.later HB5.out).drop K hK)
        have HB7 : Hid (Below w.heap.size w u0) := Lib.hid (HNW.out.trans (HB5.out.mono HNW.out.size))
        have hk1 : (l.take K).length = K := by rw [List.length_take]; have := HLN.out; omega
        have hk2 : (l.drop K).length = n - K := by rw [List.length_drop, HLN.out]
        generalize dropA A c K 13 = AD at hs2 HLD
        generalize l.take K = l1 at *
        generalize l.drop K = l2 at *
        have hgl : ∀ x, (loadVar 48 ⟨w.heap.size, 0, none⟩).run Tryz.prog (fut (Below u0.heap.size) u0 x) = .ok (.agg p.arr) (fut (Below u0.heap.size) u0 x) := cells_futs (p := p) (off := 0) fun x j _ => box_futs (F := Below u0.heap.size) (Below.refl u0.heap.size) (fun _ h => h.block _ (Nat.lt_of_lt_of_le HGL.out HB5.out.size)) ((HB5.out.block _ HGL.out).trans HG.out) x j
        refine wpGrow_cons ?_
        repeat (first | (refine wpQuiet_load rfl 48 (.tmp 3) rfl ⟨w.heap.size, 0, none⟩ rfl (.agg p.arr) (fun w' h => by obtain ⟨x, rfl⟩ := h; exact hgl x) ?_; simp only [Act.put, List.setIfInBounds_toArray, List.set_cons_succ, List.set_cons_zero]) | go_big_quiet_step (fail))
        refine wpQuiet_nil ?_
        clear hs1 hs2 hgl
        go_wp2_with (at_builtin; go_must (refine wpList_app u0 rfl (.const (.slice none 0 0)) (.tmp 36) 27 27 48 rfl u0.heap.size Tryz.underlying27 stm_info rfl _ 0 [] (World.ownsRow_nil _ _ _ _) rfl _ K (plsC l1) (Row.src HLT.out.row Tryz.underlying27 (plsC_one _)) rfl (by unfold maxLen; omega) (by omega) (Nat.le_refl _) ?_); intro v1 z1 ho hb; rw [Nat.zero_add, List.nil_append, ← hk1] at ho; have HO1 : Hid (LOwn z1 u0.heap.size v1 l1) := Lib.hid ⟨ho, fun r hr => ⟨(HLT.out.ok r hr).later hb, (HLT.out.ok r hr).clear (own_ge ho)⟩⟩; have HU := Lib.hid hb; clear ho hb)
        refine pieceEnd_normal ⟨HU.out, ?_⟩
        refine wpGrow_cons ?_
        refine wpQuiet_nil ?_
        go_wp2_with fail
        refine (HCP.out z1 (HB7.out.trans (HU.out.mono HB7.out.size))).mono ?_
        rintro e z2 ⟨r, rfl, hrs, hro, hna, hnb, hb⟩
        have HRS := Lib.hid hrs; have HRO := Lib.hid hro
        have HCL := Lib.hid (clear_new (q := r) hna hnb (own_lt HO1.out.own))
        have HF : Hid (Below u0.heap.size z1 z2) := Lib.hid (hb.mono HU.out.size)
        have HO2 := Lib.hid (HO1.out.later hb); replace HU := Lib.hid (HU.out.trans HF.out)
        clear hrs hro hna hnb hb HO1
        go_wp2_with fail
        refine pieceEnd_normal ⟨HF.out, ?_⟩
        clear HF
        refine wpGrow_cons ?_
        refine wpQuiet_nil ?_
        have hvs : r.arr.size = 13 := rfl
        go_wp2_with fail
        (first | rw [fold13] | (rw [← hvs, fold13]))
        refine pieceEnd_normal ⟨(one_new z2 _).mono HU.out.size, ?_⟩
        have HNX := Lib.hid (one_new z2 (.cells r.arr 48))
        have HR3 : Hid (Row (z2.alloc (.cells r.arr 48)) (some ⟨z2.heap.size, 0, none⟩) 1 1 13 (plsC [r])) := Lib.hid (Row.of_block (heap_alloc_new _ _) rfl)
        replace HRO := Lib.hid (HRO.out.later HNX.out)
        have HO3 := Lib.hid (HO2.out.later HNX.out)
        replace HU := Lib.hid (HU.out.trans (HNX.out.mono HU.out.size))
        clear HO2 HNX
        generalize z2.alloc (.cells r.arr 48) = z3 at *
        refine wpGrow_cons ?_
        refine wpQuiet_nil ?_
        go_wp2_with (at_builtin; go_must (refine wpList_app2 z3 rfl (.tmp 37) (.tmp 40) 27 27 48 rfl u0.heap.size Tryz.underlying27 stm_info rfl _ l1.length (plsC l1) HO3.out.own rfl (.slice (some ⟨z2.heap.size, 0, none⟩) 1 1) 1 (plsC [r]) (Row.src HR3.out Tryz.underlying27 (plsC_one _)) rfl (by unfold maxLen; omega) (by omega) HU.out.size ?_); intro v4 z4 ho hb hkp hv; have HO4 := Lib.hid (HO3.out.app (m := [r]) (fun x hx => by rw [List.mem_singleton.1 hx]; exact ⟨HRO.out, HCL.out⟩) ho hkp hv); have HF : Hid (Below u0.heap.size z3 z4) := Lib.hid hb; replace HU := Lib.hid (HU.out.trans hb); clear ho hb hkp hv)
        refine pieceEnd_normal ⟨HF.out, ?_⟩
        clear HF HR3 HO3
        refine wpGrow_cons ?_
        refine wpQuiet_nil ?_
        have HD4 := Lib.hid (HLD.out.later HU.out)
        have HC4 : Hid (∀ x ∈ l2, PlOk z4 x ∧ Clear v4 x) := Lib.hid fun x hx => ⟨HD4.out.ok x hx, (HLD.out.ok x hx).clear (own_ge HO4.out.own)⟩
        have hk4 : (l1 ++ [r]).length = K + 1 := by rw [List.length_append, hk1]; rfl
        go_wp2_with (at_builtin; go_must (refine wpList_app2 z4 rfl (.tmp 41) (.tmp 44) 27 27 48 rfl u0.heap.size Tryz.underlying27 stm_info rfl _ (l1 ++ [r]).length _ HO4.out.own rfl _ (n - K) (plsC l2) (Row.src HD4.out.row Tryz.underlying27 (plsC_one _)) rfl (by unfold maxLen; omega) (by omega) HU.out.size ?_); intro v5 z5 ho hb hkp hv; rw [← hk2] at ho; have HO5 := Lib.hid (HO4.out.app (m := l2) HC4.out ho hkp hv); have HF : Hid (Below u0.heap.size z4 z5) := Lib.hid hb; replace HU := Lib.hid (HU.out.trans hb); clear ho hb hkp hv)
        refine pieceEnd_normal ⟨HF.out, ?_⟩
        clear HF HO4 HD4 HC4
        refine wpGrow_nil ?_
        repeat (go_big_quiet_step (fail))
        refine wpQuiet_nil ?_
        obtain ⟨A5, c5, hv5, hr5⟩ := HO5.out.row
        have HR5 := Lib.hid hr5; clear hr5
        subst hv5
        go_wp2_with fail
        go_ret2
        exact ⟨A5, c5, l1 ++ [r] ++ l2, by rw [HPH.out]; rfl, by rw [HPU.out, HPH.out, List.map_append, List.map_append, List.map_cons, List.map_nil, HRS.out, List.append_assoc]; rfl, HR5.out, HB7.out.trans (HU.out.mono HB7.out.size)⟩
end Go.Proofs.YtnmpbjgccbnomaaGreat
/- The reference's Copy and Seal of statements without lists: nil stays nil. -/
namespace Go.Proofs.YtnmpbjgccbnomaaGreat
open Go.RowKit
end Go.Proofs.YtnmpbjgccbnomaaGreat
/- The walk of the reference's put. -/
namespace Go.Proofs.YtnmpbjgccbnomaaGreat
open Go.RowKit
end Go.Proofs.YtnmpbjgccbnomaaGreat
/- The walk of the reference's Adds. -/
namespace Go.Proofs.YtnmpbjgccbnomaaGreat
open Go.RowKit
end Go.Proofs.YtnmpbjgccbnomaaGreat
/- The walk of the reference's Adds over any list. -/
namespace Go.Proofs.YtnmpbjgccbnomaaGreat
open Go.RowKit
/-- A row whose first cell is no slice does not lie in a block of one slice. -/
theorem row_not_slice {w : World} {g : Nat} {A : Option Addr} {n c sz : Nat} {cs : List Value} {B : Option Addr} {m k : Nat} {T : TypeId} {fr : Nat × Nat} (h : Row w A n c sz cs) (hz : 0 < sz) (h0 : ∀ B m k, cs[0]? ≠ some (.slice B m k))
    (hg : w.heap[g]? = some (.cells #[.slice B m k] T fr)) : ∀ ad, A = some ad → 0 < n → ad.block ≠ g := fun ad hA hn he => by
  obtain ⟨b, off, hA', hc⟩ := Row.form h hn
  rw [hA] at hA'
  injection hA' with e
  subst e
  simp only at he
  subst he
  have h1 := hc 0 (Nat.mul_pos hn hz)
  rw [cell_of_row _ _ _ _ _ _ hg] at h1
  have h2 : 0 < cs.length := by rw [h.len]; exact Nat.mul_pos hn hz
  rw [List.getElem?_eq_getElem h2] at h1
  cases off with
  | zero => exact h0 B m k (by rw [List.getElem?_eq_getElem h2, ← h1]; rfl)
  | succ off => rw [Array.getElem?_eq_none (by simp)] at h1; cases h1
theorem ints_no (l : List Int) (B : Option Addr) (m k : Nat) : (intsV l)[0]? ≠ some (.slice B m k) := by
  cases l with
  | nil => intro h; cases h
  | cons a l => intro h; cases h
theorem pins_no (l : List PinD) (B : Option Addr) (m k : Nat) : (pinsC l)[0]? ≠ some (.slice B m k) := by
  cases l with
  | nil => intro h; cases h
  | cons a l => intro h; cases h
theorem plsC_no (l : List Pl) (B : Option Addr) (m k : Nat) : (plsC l)[0]? ≠ some (.slice B m k) := by
  cases l with
  | nil => intro h; cases h
  | cons a l => intro h; cases h
theorem LRow.set {w : World} {g : Nat} {A : Option Addr} {n c : Nat} {l : List Pl} {B : Option Addr} {m k : Nat} {T : TypeId} {fr : Nat × Nat} (h : LRow w A n c l) (hg : w.heap[g]? = some (.cells #[.slice B m k] T fr)) (new : Array Value) : LRow (w.setRow g new) A n c l :=
  ⟨Row.keep h.row fun ad hA hn _ => setRow_other _ _ _ _ (row_not_slice h.row (by decide) (plsC_no l) hg ad hA hn), fun p hp =>
    ⟨Row.keep (h.ok p hp).1 fun ad hA hn _ => setRow_other _ _ _ _ (row_not_slice (h.ok p hp).1 (by decide) (fun B m k => ints_no p.s.list B m k) hg ad hA hn),
     Row.keep (h.ok p hp).2 fun ad hA hn _ => setRow_other _ _ _ _ (row_not_slice (h.ok p hp).2 (by decide) (fun B m k => pins_no p.s.pins B m k) hg ad hA hn)⟩⟩
def addsS (l : List Stm) (x : Stm) : List Stm := if checkV x = 0 ∧ sealedB x = true ∧ (putS l x).length ≤ 1000 then putS l x else l
theorem addsS_mem {l : List Stm} {x s : Stm} (h : s ∈ addsS l x) : s ∈ l ∨ (s = x ∧ checkV x = 0 ∧ sealedB x = true) := by
  unfold addsS at h
  split at h
  · rename_i hc
    rcases putS_mem h with h | h
    · exact .inr ⟨h, hc.1, hc.2.1⟩
    · exact .inl h
  · exact .inl h
theorem addsS_len (l : List Stm) (x : Stm) : (addsS l x).length ≤ l.length + 1 := by
  unfold addsS
  split
  · exact putS_len l x
  · omega
set_option maxRecDepth 100000 in
set_option maxHeartbeats 4000000 in
theorem addsP_any (A : Option Addr) (n c : Nat) (l : List Pl) (p : Pl) (w : World) (hl : LRow w A n c l) (hn : n ≤ 100000) (hp : PlOk w p) (hs : ∀ q ∈ l, Small q.s) (hsp : Small p.s) :
    Calls Tryz.prog 45 #[.agg #[.slice A n c], .agg p.arr] w fun e w' => ∃ A2 c2 l', e = .returned (.agg #[.slice A2 (List.length l') c2]) ∧ l'.map (·.s) = addsS (l.map (·.s)) p.s ∧ LRow w' A2 l'.length c2 l' ∧ Below w.heap.size w w' := by
  have HL := Lib.hid hl; have HLN := Lib.hid hl.len
  have HCK : Hid (∀ y, Below w.heap.size w y → Calls Tryz.prog 63 #[.agg p.arr] y (SaysL (.int .i64 (checkV p.s)) y)) := Lib.hid fun y h => checkP_any p y (hp.later h) hsp
  have HSE : Hid (∀ y, Below w.heap.size w y → Calls Tryz.prog 64 #[.agg p.arr] y (SaysL (.bool (sealedB p.s)) y)) := Lib.hid fun y h => sealedP_any p y (hp.later h) hsp
  have HPU := Lib.hid fun y (h : Below w.heap.size w y) => putP_any A n c l p y (hl.later h) hn (hp.later h) hs hsp
  have HAD : Hid (addsS (l.map (·.s)) p.s = if checkV p.s = 0 ∧ sealedB p.s = true ∧ (putS (l.map (·.s)) p.s).length ≤ 1000 then putS (l.map (·.s)) p.s else l.map (·.s)) := Lib.hid rfl
  have HPN : Hid ((putS (l.map (·.s)) p.s).length ≤ n + 1) := Lib.hid (by have := putS_len (l.map (·.s)) p.s; rw [List.length_map, hl.len] at this; exact this)
  generalize addsS (l.map (·.s)) p.s = AD at HAD ⊢
  generalize putS (l.map (·.s)) p.s = PS at HAD HPU HPN
  generalize (!putHas (l.map (·.s)) p.s) = pb at HPU
  clear hl hp hs hsp
  have HB : Hid (Below w.heap.size w (((w.alloc (.cells #[.slice A n c] 30)).alloc (.cells p.arr 48)).alloc (.cells #[.slice none 0 0] 30))) := Lib.hid ((one_new w _).trans (((one_new (w.alloc _) _).trans ((one_new _ _).mono (by simp))).mono (by simp)))
  have HX : Hid ((((w.alloc (.cells #[.slice A n c] 30)).alloc (.cells p.arr 48)).alloc (.cells #[.slice none 0 0] 30)).heap[w.heap.size]? = some (.cells #[.slice A n c] 30 (0, 0))) := Lib.hid ((Below.heap_alloc _ _ _ (by simp; omega)).trans ((Below.heap_alloc _ _ _ (by simp)).trans (heap_alloc_new _ _)))
  have HY : Hid ((((w.alloc (.cells #[.slice A n c] 30)).alloc (.cells p.arr 48)).alloc (.cells #[.slice none 0 0] 30)).heap[w.heap.size + 1]? = some (.cells p.arr 48 (0, 0))) := Lib.hid ((Below.heap_alloc _ _ _ (by simp)).trans (heap_alloc2_new _ _ _))
  have HW : Hid ((((w.alloc (.cells #[.slice A n c] 30)).alloc (.cells p.arr 48)).alloc (.cells #[.slice none 0 0] 30)).heap[w.heap.size + 2]? = some (.cells #[.slice none 0 0] 30 (0, 0))) := Lib.hid (by
    have h := heap_alloc_new ((w.alloc (.cells #[.slice A n c] 30)).alloc (.cells p.arr 48)) (.cells #[.slice none 0 0] 30)
    rw [show ((w.alloc (.cells #[.slice A n c] 30)).alloc (.cells p.arr 48)).heap.size = w.heap.size + 2 by simp] at h
    exact h)
  go_enter Tryz.func45, Tryz.ntmps45
  go_wp2_with (refine wpList_load_row rfl 48 (.tmp 3) rfl (w.heap.size + 1) rfl 48 p.arr (0, 0) _ HY.out Tryz.underlying48 rfl p.info ?_)
  refine (HCK.out _ HB.out).mono ?_
  generalize ((w.alloc (.cells #[.slice A n c] 30)).alloc (.cells p.arr 48)).alloc (.cells #[.slice none 0 0] 30) = y0 at *
  rintro e w1 ⟨rfl, hb⟩
  replace HX := Lib.hid ((hb.block _ (Array.getElem?_eq_some_iff.1 HX.out).1).trans HX.out)
  replace HY := Lib.hid ((hb.block _ (Array.getElem?_eq_some_iff.1 HY.out).1).trans HY.out)
  replace HW := Lib.hid ((hb.block _ (Array.getElem?_eq_some_iff.1 HW.out).1).trans HW.out)
  replace HB := Lib.hid (HB.out.trans (hb.mono HB.out.size))
  clear hb HCK
  by_cases hk : checkV p.s = 0
  · have hk2 : (checkV p.s != 0) = false := by rw [hk]; simp
    have HK := Lib.hid hk
    rw [hk]
    clear hk hk2
    go_wp2_with (refine wpList_load_rowG rfl 48 (.tmp 3) rfl (w.heap.size + 1) rfl 48 p.arr (0, 0) _ HY.out Tryz.underlying48 rfl p.info ?_)
    refine (HSE.out _ HB.out).mono ?_
    rintro e w2 ⟨rfl, hb⟩
    replace HX := Lib.hid ((hb.block _ (Array.getElem?_eq_some_iff.1 HX.out).1).trans HX.out)
    replace HY := Lib.hid ((hb.block _ (Array.getElem?_eq_some_iff.1 HY.out).1).trans HY.out)
    replace HW := Lib.hid ((hb.block _ (Array.getElem?_eq_some_iff.1 HW.out).1).trans HW.out)
    replace HB := Lib.hid (HB.out.trans (hb.mono HB.out.size))
    clear hb HSE
    by_cases hse : sealedB p.s = true
    · have HSD := Lib.hid hse
      rw [hse]
      clear hse
      have hc := (cell_of_row _ _ 0 _ _ _ HX.out).trans rfl
      go_wp2_with (refine wpList_load_row rfl 48 (.tmp 3) rfl (w.heap.size + 1) rfl 48 p.arr (0, 0) _ HY.out Tryz.underlying48 rfl p.info ?_)
      clear hc
      refine (HPU.out _ HB.out).mono ?_
      rintro e w3 ⟨A2, c2, l', rfl, hm, hr, hb⟩
      replace HX := Lib.hid ((hb.block _ (Array.getElem?_eq_some_iff.1 HX.out).1).trans HX.out)
      replace HY := Lib.hid ((hb.block _ (Array.getElem?_eq_some_iff.1 HY.out).1).trans HY.out)
      replace HW := Lib.hid ((hb.block _ (Array.getElem?_eq_some_iff.1 HW.out).1).trans HW.out)
      replace HB := Lib.hid (HB.out.trans (hb.mono HB.out.size))
      have HM := Lib.hid hm; have HR := Lib.hid hr; clear hb hm hr HPU
      by_cases hle : l'.length ≤ 1000
      · have hle2 : decide ((l'.length : Int) ≤ 1000) = true := decide_eq_true (by omega)
        have hle3 : (l'.length : Int) ≤ 1000 := by omega
        have HEQ : Hid (AD = PS) := Lib.hid (by rw [HAD.out, if_pos ⟨HK.out, HSD.out, by rw [← HM.out, List.length_map]; exact hle⟩])
        clear hle
        go_wp2_with (refine wpList_store_row rfl 30 (.tmp 4) (.tmp 27) rfl (w.heap.size + 2) #[.slice A2 (List.length l') c2] rfl rfl 30 _ HW.out (by kernel_rfl) rfl (by simp [Value.oneCell']) ?_)
        refine bodyPost_ret (v := .agg #[.slice A2 (List.length l') c2]) (results_cell_row rfl _ _ (w.heap.size + 2) 30 #[.slice A2 (List.length l') c2] (0, 0) _ rfl (setRow_heap _ _ _ #[.slice A2 (List.length l') c2] _ _ HW.out) Tryz.underlying30 rfl (by kernel_rfl)) rfl ?_
        exact ⟨A2, c2, l', rfl, by rw [HEQ.out]; exact HM.out, HR.out.set HW.out _, below_setRow HB.out (by omega) _⟩
      · have hle2 : decide ((l'.length : Int) ≤ 1000) = false := decide_eq_false (by omega)
        have hle3 : ¬ (l'.length : Int) ≤ 1000 := by omega
        have HEQ : Hid (AD = l.map (·.s)) := Lib.hid (by rw [HAD.out, if_neg fun h => hle (by have := h.2.2; rw [← HM.out, List.length_map] at this; exact this)])
        clear hle
        go_wp2_with (first | (refine wpList_load_row rfl 30 (.tmp 2) rfl w.heap.size rfl 30 #[.slice A n c] (0, 0) _ HX.out Tryz.underlying30 rfl (by kernel_rfl) ?_) | (refine wpList_store_row rfl 30 (.tmp 4) (.tmp 28) rfl (w.heap.size + 2) #[.slice A n c] rfl rfl 30 _ HW.out (by kernel_rfl) rfl (by simp [Value.oneCell']) ?_))
        refine bodyPost_ret (v := .agg #[.slice A n c]) (results_cell_row rfl _ _ (w.heap.size + 2) 30 #[.slice A n c] (0, 0) _ rfl (setRow_heap _ _ _ #[.slice A n c] _ _ HW.out) Tryz.underlying30 rfl (by kernel_rfl)) rfl ?_
        have hln := HLN.out
        subst hln
        exact ⟨A, c, l, rfl, HEQ.out.symm, (HL.out.later HB.out).set HW.out _, below_setRow HB.out (by omega) _⟩
    · have HEQ : Hid (AD = l.map (·.s)) := Lib.hid (by rw [HAD.out, if_neg fun h => hse h.2.1])
      rw [show sealedB p.s = false by simpa using hse]
      clear hse
      go_wp2_with (first | (refine wpList_load_row rfl 30 (.tmp 2) rfl w.heap.size rfl 30 #[.slice A n c] (0, 0) _ HX.out Tryz.underlying30 rfl (by kernel_rfl) ?_) | (refine wpList_store_row rfl 30 (.tmp 4) (.tmp 15) rfl (w.heap.size + 2) #[.slice A n c] rfl rfl 30 _ HW.out (by kernel_rfl) rfl (by simp [Value.oneCell']) ?_))
      refine bodyPost_ret (v := .agg #[.slice A n c]) (results_cell_row rfl _ _ (w.heap.size + 2) 30 #[.slice A n c] (0, 0) _ rfl (setRow_heap _ _ _ #[.slice A n c] _ _ HW.out) Tryz.underlying30 rfl (by kernel_rfl)) rfl ?_
      have hln := HLN.out
      subst hln
      exact ⟨A, c, l, rfl, HEQ.out.symm, (HL.out.later HB.out).set HW.out _, below_setRow HB.out (by omega) _⟩
  · have hk2 : (checkV p.s != 0) = true := by rw [bne_iff_ne]; exact hk
    have HEQ : Hid (AD = l.map (·.s)) := Lib.hid (by rw [HAD.out, if_neg fun h => hk h.1])
    generalize checkV p.s = ck at *
    clear hk
    go_wp2_with (first | (refine wpList_load_row rfl 30 (.tmp 2) rfl w.heap.size rfl 30 #[.slice A n c] (0, 0) _ HX.out Tryz.underlying30 rfl (by kernel_rfl) ?_) | (refine wpList_store_row rfl 30 (.tmp 4) (.tmp 15) rfl (w.heap.size + 2) #[.slice A n c] rfl rfl 30 _ HW.out (by kernel_rfl) rfl (by simp [Value.oneCell']) ?_))
    refine bodyPost_ret (v := .agg #[.slice A n c]) (results_cell_row rfl _ _ (w.heap.size + 2) 30 #[.slice A n c] (0, 0) _ rfl (setRow_heap _ _ _ #[.slice A n c] _ _ HW.out) Tryz.underlying30 rfl (by kernel_rfl)) rfl ?_
    have hln := HLN.out
    subst hln
    exact ⟨A, c, l, rfl, HEQ.out.symm, (HL.out.later HB.out).set HW.out _, below_setRow HB.out (by omega) _⟩
end Go.Proofs.YtnmpbjgccbnomaaGreat
/- The walk of made.StoreOf over two statements. -/
namespace Go.Proofs.YtnmpbjgccbnomaaGreat
open Go.RowKit
end Go.Proofs.YtnmpbjgccbnomaaGreat
/- The walk of made.StoreOf over any list. -/
namespace Go.Proofs.YtnmpbjgccbnomaaGreat
open Go.RowKit
/-- The cells of statement k in every world that may come, where what may turn lies above the row's world. -/
theorem LRow.futs2 {F : World → World → Prop} (hr : ∀ w, F w w) {W0 W : World} {A : Option Addr} {n c : Nat} {l : List Pl} (hF : ∀ w', F W w' → Below W0.heap.size W0 w') (h : LRow W0 A n c l) (k : Nat) (hk : k < n) :
    ∃ b off, A = some ⟨b, off, none⟩ ∧ ∀ x j, j < (l.getD k noPl).arr.size → (fut F W x).cell? ⟨b, off + k * 13 + j, none⟩ = (l.getD k noPl).arr[j]? := by
  obtain ⟨b, off, hA, _⟩ := h.cells k hk
  refine ⟨b, off, hA, fun x j hj => ?_⟩
  obtain ⟨b2, off2, hA2, hc2⟩ := (h.later (hF _ (fut_ok hr W x))).cells k hk
  rw [hA] at hA2
  injection hA2 with hA2
  injection hA2 with e1 e2
  subst e1 e2
  exact hc2 j hj
/-- The statements of a made store. -/
def storeL (l : List Stm) : List Stm := l.foldl addsS []
theorem storeL_app (l : List Stm) (x : Stm) : storeL (l ++ [x]) = addsS (storeL l) x := by unfold storeL; rw [List.foldl_append]; rfl
theorem storeFold_mem : ∀ (l m : List Stm) (s : Stm), s ∈ l.foldl addsS m → s ∈ m ∨ (s ∈ l ∧ checkV s = 0 ∧ sealedB s = true)
  | [], m, s, h => .inl h
  | x :: l, m, s, h => by
    rcases storeFold_mem l (addsS m x) s h with h | h
    · rcases addsS_mem h with h | h
      · exact .inl h
      · exact .inr ⟨List.mem_cons.2 (.inl h.1), by rw [h.1]; exact h.2⟩
    · exact .inr ⟨List.mem_cons_of_mem _ h.1, h.2⟩
theorem storeL_mem {l : List Stm} {s : Stm} (h : s ∈ storeL l) : s ∈ l ∧ checkV s = 0 ∧ sealedB s = true := by
  rcases storeFold_mem l [] s h with h | h
  · cases h
  · exact h
theorem storeFold_len : ∀ (l m : List Stm), (l.foldl addsS m).length ≤ m.length + l.length
  | [], m => Nat.le_refl _
  | x :: l, m => by
    have h := storeFold_len l (addsS m x)
    have h2 := addsS_len m x
    simp only [List.foldl_cons, List.length_cons]; omega
theorem storeL_len (l : List Stm) : (storeL l).length ≤ l.length := by have := storeFold_len l []; simpa [storeL] using this
set_option maxRecDepth 100000 in
set_option maxHeartbeats 4000000 in
theorem storeOfP_any (A : Option Addr) (n c : Nat) (l : List Pl) (w : World) (hl : LRow w A n c l) (hn : n ≤ 100000) (hs : ∀ q ∈ l, Small q.s) :
    Calls Tryz.prog 24 #[.slice A n c] w fun e w' => ∃ A2 c2 l', e = .returned (.agg #[.slice A2 (List.length l') c2]) ∧ l'.map (·.s) = storeL (l.map (·.s)) ∧ LRow w' A2 l'.length c2 l' ∧ Below w.heap.size w w' := by
  have HL := Lib.hid hl; have HLN := Lib.hid hl.len; have HS := Lib.hid hs
  clear hl hs
  have HB : Hid (Below w.heap.size w ((w.alloc (.cells #[.slice none 0 0] 30)).alloc (.cells #[.slice none 0 0] 30))) := Lib.hid ((one_new w _).trans ((one_new _ _).mono (by simp)))
  have HX : Hid (((w.alloc (.cells #[.slice none 0 0] 30)).alloc (.cells #[.slice none 0 0] 30)).heap[w.heap.size]? = some (.cells #[.slice none 0 0] 30 (0, 0))) := Lib.hid ((Below.heap_alloc _ _ _ (by simp)).trans (heap_alloc_new _ _))
  have HY : Hid (((w.alloc (.cells #[.slice none 0 0] 30)).alloc (.cells #[.slice none 0 0] 30)).heap[w.heap.size + 1]? = some (.cells #[.slice none 0 0] 30 (0, 0))) := Lib.hid (heap_alloc2_new _ _ _)
  go_enter Tryz.func24, Tryz.ntmps24
  go_wp2_with fail
  generalize ((w.alloc (.cells #[.slice none 0 0] 30)).alloc (.cells #[.slice none 0 0] 30)) = y0 at *
  go_loopw [4] (fun i wr => ∃ (j : Nat) (A1 : Option Addr) (c1 : Nat) (l' : List Pl), j ≤ n ∧ i = .int .i64 j ∧ Hid (LRow wr A1 l'.length c1 l' ∧ l'.map (·.s) = storeL ((l.take j).map (·.s)) ∧ Below w.heap.size w wr ∧ wr.heap[w.heap.size]? = some (.cells #[.slice none 0 0] 30 (0, 0)) ∧ wr.heap[w.heap.size + 1]? = some (.cells #[.slice A1 l'.length c1] 30 (0, 0)))) (fun i _ => n - (intOf i).toNat)
  case atStart => exact ⟨0, none, 0, [], Nat.zero_le _, rfl, Lib.hid ⟨LRow.nil _, rfl, HB.out, HX.out, HY.out⟩⟩
  case round =>
    obtain ⟨j, A1, c1, l', hj, rfl, HQ⟩ := hrel
    clear HX HY HB
    by_cases hlt : j < n
    · have hlt2 : (j : Int) < (n : Int) := by omega
      have HT : Hid (storeL ((l.take (j + 1)).map (·.s)) = addsS (l'.map (·.s)) (l.getD j noPl).s) := Lib.hid (by
        rw [List.take_add_one, List.map_append, List.getElem?_eq_getElem (by rw [HLN.out]; exact hlt), List.getD_eq_getElem?_getD, List.getElem?_eq_getElem (by rw [HLN.out]; exact hlt), HQ.out.2.1]
        exact storeL_app _ _)
      have hle : l'.length ≤ 100000 := by
        have h1 := congrArg List.length HQ.out.2.1
        have h2 := storeL_len ((l.take j).map (·.s))
        simp only [List.length_map, List.length_take] at h1 h2; omega
      have HSL : Hid (∀ q ∈ l', Small q.s) := Lib.hid fun q hq => by
        have h1 : q.s ∈ storeL ((l.take j).map (·.s)) := by rw [← HQ.out.2.1]; exact List.mem_map_of_mem hq
        obtain ⟨r, hr, he⟩ := List.mem_map.1 (storeL_mem h1).1
        rw [← he]; exact HS.out r (List.mem_of_mem_take hr)
      have HSP := Lib.hid (HS.out _ (HL.out.get j hlt))
      go_wp2_with fail
      refine wp_region_flow (by kernel_rfl) (But (w.heap.size + 1)) ?_
      have HR1 : Hid (LRow wr.drew A1 l'.length c1 l') := Lib.hid (HQ.out.1.later (Later.drew wr))
      have HB : Hid (Below w.heap.size w wr.drew) := Lib.hid HQ.out.2.2.1.drew
      have HX : Hid (wr.drew.heap[w.heap.size]? = some (.cells #[.slice none 0 0] 30 (0, 0))) := Lib.hid HQ.out.2.2.2.1
      have HY : Hid (wr.drew.heap[w.heap.size + 1]? = some (.cells #[.slice A1 l'.length c1] 30 (0, 0))) := Lib.hid HQ.out.2.2.2.2
      clear HQ
      generalize wr.drew = z0 at *
      obtain ⟨b, off, hA, hf⟩ := LRow.futs2 (F := But (w.heap.size + 1)) (But.refl _) (W := z0) (fun w' h => HB.out.trans (h.below (Nat.le_succ _) HB.out.size)) HL.out j hlt
      subst hA
      have HPO := Lib.hid ((HL.out.later HB.out).at j hlt)
      generalize l.getD j noPl = p at *
      have hf2 := cells_futs hf
      clear hf
      refine flow_reads (F := But (w.heap.size + 1)) (fun _ => But.refl _ _) (by kernel_rfl) [1, 2, 3, 4] (fuel := 3) (by kernel_rfl) ?_
      simp only [List.map_cons, List.map_nil, pick, List.getD_cons_zero, List.getD_cons_succ]
      repeat (first | (refine wpQuiet_load rfl 48 (.tmp 14) rfl ⟨b, off + j * 13, none⟩ rfl (.agg p.arr) (fun w' h => by obtain ⟨x, rfl⟩ := h; exact hf2 x) ?_; simp only [Act.put, List.setIfInBounds_toArray, List.set_cons_succ, List.set_cons_zero]) | go_big_quiet_step (fail))
      refine wpQuiet_nil ?_
      clear hf2
      refine flow_one (F := But (w.heap.size + 1)) (fun _ _ _ h k => But.trans h k) (fun _ => But.refl _ _) 0 (by kernel_rfl) (by decide) ?_
      simp only [pick, List.getD_cons_zero]
      have hc := (cell_of_row _ _ 0 _ _ _ HY.out).trans rfl
      go_wp2_with fail
      clear hc
      refine pieceEnd_normal ⟨But.refl _ _, ?_⟩
      refine flow_one (F := But (w.heap.size + 1)) (fun _ _ _ h k => But.trans h k) (fun _ => But.refl _ _) 5 (by kernel_rfl) (by decide) ?_
      simp only [pick, List.getD_cons_zero, List.getD_cons_succ]
      go_wp2_with fail
      refine (addsP_any A1 l'.length c1 l' p z0 HR1.out hle HPO.out HSL.out HSP.out).mono ?_
      rintro e w1 ⟨A2, c2, l2, rfl, hm, hr, hb⟩
      have hf : But (w.heap.size + 1) _ _ := But.of hb
      replace HX := Lib.hid ((hb.block _ (Array.getElem?_eq_some_iff.1 HX.out).1).trans HX.out)
      replace HY := Lib.hid ((hb.block _ (Array.getElem?_eq_some_iff.1 HY.out).1).trans HY.out)
      replace HB := Lib.hid (HB.out.trans (hb.mono HB.out.size))
      have HR := Lib.hid hr; have HM := Lib.hid hm
      clear hr hb hm HR1 HPO
      go_wp2_with fail
      refine pieceEnd_normal ⟨hf, ?_⟩
      clear hf
      refine flow_one (F := But (w.heap.size + 1)) (fun _ _ _ h k => But.trans h k) (fun _ => But.refl _ _) 6 (by kernel_rfl) (by decide) ?_
      simp only [pick, List.getD_cons_zero, List.getD_cons_succ]
      go_wp2_with (refine wpList_store_row rfl 30 (.tmp 3) (.tmp 16) rfl (w.heap.size + 1) #[.slice A2 l2.length c2] rfl rfl 30 _ HY.out (by kernel_rfl) rfl (by simp [Value.oneCell']) ?_)
      refine pieceEnd_normal ⟨But.of_row _ _ _, ?_⟩
      replace HX := Lib.hid ((setRow_other w1 (w.heap.size + 1) w.heap.size #[.slice A2 l2.length c2] (by omega)).trans HX.out)
      replace HR := Lib.hid (HR.out.set HY.out #[.slice A2 l2.length c2])
      replace HB := Lib.hid (below_setRow HB.out (by omega : w.heap.size ≤ (w.heap.size + 1)) #[.slice A2 l2.length c2])
      replace HY := Lib.hid (setRow_heap w1 (w.heap.size + 1) _ #[.slice A2 l2.length c2] _ _ HY.out)
      generalize w1.setRow (w.heap.size + 1) #[.slice A2 l2.length c2] = y1 at *
      refine flow_done (by kernel_rfl) ?_
      go_wp2_with fail
      exact ⟨⟨j + 1, A2, c2, l2, hlt, by go_num, Lib.hid ⟨HR.out, by rw [HT.out, HM.out], HB.out, HX.out, HY.out⟩⟩, by simp [intOf]; omega⟩
    · have hlt2 : ¬ (j : Int) < (n : Int) := by omega
      have HE : Hid (j = n) := by unfold Hid; omega
      have HW : Hid (wr.heap[w.heap.size]? = some (.cells #[.slice none 0 0] 30 (0, 0))) := Lib.hid HQ.out.2.2.2.1
      have HY : Hid (wr.heap[w.heap.size + 1]? = some (.cells #[.slice A1 l'.length c1] 30 (0, 0))) := Lib.hid HQ.out.2.2.2.2
      go_wp2_with (first | (refine wpList_load_row rfl 30 (.tmp 3) rfl (w.heap.size + 1) rfl 30 #[.slice A1 l'.length c1] (0, 0) _ HY.out Tryz.underlying30 rfl (by kernel_rfl) ?_) | (refine wpList_store_row rfl 30 (.tmp 2) (.tmp 17) rfl w.heap.size #[.slice A1 l'.length c1] rfl rfl 30 _ HW.out (by kernel_rfl) rfl (by simp [Value.oneCell']) ?_))
      refine bodyPost_ret (v := .agg #[.slice A1 l'.length c1]) (results_cell_row rfl _ _ w.heap.size 30 #[.slice A1 l'.length c1] (0, 0) _ rfl (setRow_heap _ _ _ #[.slice A1 l'.length c1] _ _ HW.out) Tryz.underlying30 rfl (by kernel_rfl)) rfl ?_
      exact ⟨A1, c1, l', rfl, by rw [HQ.out.2.1, HE.out, List.take_of_length_le (by rw [HLN.out]; exact Nat.le_refl _)], HQ.out.1.set HW.out _, below_setRow HQ.out.2.2.1 (Nat.le_refl _) _⟩
end Go.Proofs.YtnmpbjgccbnomaaGreat
