import Derived.Test.YtdeojmgcofakeaaPackAN
/- The walk of the reference's Counted over a store. -/
namespace Go.Proofs.Ytdeojmgcofakeaa
open Go.RowKit
/-- What counts of the first authors. -/
def countedUp (l : List Stm) (j : Nat) : List Stm := (List.range j).flatMap fun (k : Nat) => countedR (k : Int) (ofS (k : Int) l)
def countedAll (l : List Stm) : List Stm := countedUp l 64
theorem countedUp_succ (l : List Stm) (j : Nat) : countedUp l (j + 1) = countedUp l j ++ countedR (j : Int) (ofS (j : Int) l) := by
  unfold countedUp
  rw [List.range_succ, List.flatMap_append]
  simp
theorem ofS_len (au : Int) (l : List Stm) : (ofS au l).length ≤ l.length := List.length_filter_le _ _
theorem ofS_mem {au : Int} {l : List Stm} {s : Stm} (h : s ∈ ofS au l) : s ∈ l := (List.mem_filter.1 h).1
theorem countedR_len (au : Int) (l : List Stm) : (countedR au l).length ≤ l.length := by
  unfold countedR
  rw [List.length_take]
  exact Nat.le_trans (Nat.min_le_right _ _) (ownL_len au l)
theorem countedR_mem7 {au : Int} {l : List Stm} {s : Stm} (h : s ∈ countedR au l) : s ∈ l := (ownL_mem (List.mem_of_mem_take h)).1
theorem countedAll_mem {l : List Stm} {s : Stm} (h : s ∈ countedAll l) : s ∈ l := by
  obtain ⟨k, _, hk⟩ := List.mem_flatMap.1 h
  exact ofS_mem (countedR_mem7 hk)
theorem countedUp_len (l : List Stm) : ∀ j, (countedUp l j).length ≤ j * l.length
  | 0 => Nat.zero_le _
  | j + 1 => by
    rw [countedUp_succ, List.length_append, Nat.succ_mul]
    have h1 := countedUp_len l j
    have h2 := countedR_len (j : Int) (ofS (j : Int) l)
    have h3 := ofS_len (j : Int) l
    omega
set_option maxRecDepth 100000 in
set_option maxHeartbeats 4000000 in
theorem countedAll_any (A : Option Addr) (n c : Nat) (l : List Pl) (w : World) (hl : LRow w A n c l) (hn : n ≤ 1000) (hs : ∀ p ∈ l, Small p.s) :
    Calls Try.prog 22 #[.agg #[.slice A n c]] w fun e w' => ∃ v l', e = .returned v ∧ l'.map (·.s) = countedAll (l.map (·.s)) ∧ LOwn w' w.heap.size v l' ∧ Below w.heap.size w w' := by
  have HL := Lib.hid hl; have HLN := Lib.hid hl.len; have HS := Lib.hid hs
  clear hl hs
  go_enter Try.func22, Try.ntmps22
  go_wp2_with fail
  have HNW := Lib.hid (one_new w (.cells #[.slice A n c] 42))
  have HG : Hid ((w.alloc (.cells #[.slice A n c] 42)).heap[w.heap.size]? = some (.cells #[.slice A n c] 42 (0, 0))) := Lib.hid (heap_alloc_new _ _)
  generalize w.alloc (.cells #[.slice A n c] 42) = y0 at *
  have HGL : Hid (w.heap.size < y0.heap.size) := Lib.hid (Array.getElem?_eq_some_iff.1 HG.out).1
  replace HL := Lib.hid (HL.out.later HNW.out)
  go_loopw [3, 4] (fun v i wr => ∃ (j : Nat) (l' : List Pl), j ≤ 64 ∧ i = .int .i64 j ∧ Hid (LOwn wr y0.heap.size v l' ∧ l'.map (·.s) = countedUp (l.map (·.s)) j ∧ Below y0.heap.size y0 wr)) (fun _ i _ => 64 - (intOf i).toNat)
  case atStart => exact ⟨0, [], Nat.zero_le _, rfl, Lib.hid ⟨LOwn.nil _ _, rfl, Below.refl _ _⟩⟩
  case round =>
    obtain ⟨j, l', hj, rfl, HQ⟩ := hrel
    obtain ⟨A3, c3, hv3, -⟩ := HQ.out.1.row
    subst hv3
    by_cases hlt : j < 64
    · have hlt2 : (j : Int) < 64 := by omega
      have HX0 : Hid (wr.heap[w.heap.size]? = some (.cells #[.slice A n c] 42 (0, 0))) := Lib.hid ((HQ.out.2.2.block _ HGL.out).trans HG.out)
      have HLJ := Lib.hid (HL.out.later HQ.out.2.2)
      have HLE : Hid (l'.length ≤ 64000) := Lib.hid (by
        have h1 := congrArg List.length HQ.out.2.1
        have h2 := countedUp_len (l.map (·.s)) j
        rw [List.length_map] at h1 h2
        rw [HLN.out] at h2
        have h3 : j * n ≤ 64 * 1000 := Nat.mul_le_mul hj hn
        omega)
      have HST := Lib.hid (countedUp_succ (l.map (·.s)) j)
      go_wp2_with (refine wpList_load_row rfl 42 (.tmp 1) rfl w.heap.size rfl 42 #[.slice A n c] (0, 0) _ HX0.out Try.underlying42 rfl (by kernel_rfl) ?_)
      refine (refOf_any A n c l (j : Int) wr HLJ.out (by omega) (fun p hp => (HS.out p hp).few)).mono ?_
      rintro e w1 ⟨v1, l1, rfl, hm1, ho1, hb1⟩
      obtain ⟨A1, c1, hv1, hr1⟩ := ho1.row
      subst hv1
      have HS1 : Hid (∀ p ∈ l1, Small p.s) := Lib.hid fun p hp => by
        have h1 : p.s ∈ ofS (j : Int) (l.map (·.s)) := by rw [← hm1]; exact List.mem_map_of_mem hp
        obtain ⟨r, hr, he⟩ := List.mem_map.1 (ofS_mem h1)
        rw [← he]; exact HS.out r hr
      have hl1 : l1.length ≤ n := by
        have h1 := congrArg List.length hm1
        have h2 := ofS_len (j : Int) (l.map (·.s))
        rw [List.length_map] at h1 h2
        have h3 := HLN.out
        omega
      have HM1 := Lib.hid hm1; have HR1 := Lib.hid hr1
      have HO1 := Lib.hid (HQ.out.1.later hb1); have HB1 := Lib.hid (HQ.out.2.2.trans (hb1.mono HQ.out.2.2.size)); have HM := Lib.hid HQ.out.2.1
      clear hm1 ho1 hb1 hr1 HQ HX0 HLJ
      go_wp2_with fail
      refine (refCounted_hi (j : Int) A1 l1.length c1 l1 w1 HR1.out (by omega) HS1.out).mono ?_
      rintro e w2 ⟨v2, l2, rfl, hm2, ho2, hhi2, hb2⟩
      obtain ⟨A2, c2, hv2, hr2⟩ := ho2.row
      subst hv2
      have hl2 : l2.length ≤ n := by
        have h1 := congrArg List.length hm2
        have h2 := countedR_len (j : Int) (l1.map (·.s))
        rw [List.length_map] at h1 h2
        omega
      have HM2 : Hid (l2.map (·.s) = countedR (j : Int) (ofS (j : Int) (l.map (·.s)))) := Lib.hid (by rw [hm2, HM1.out])
      have HR2 := Lib.hid hr2
      have HCL : Hid (∀ p ∈ l2, PlOk w2 p ∧ Clear (.slice A3 l'.length c3) p) := Lib.hid fun p hp => ⟨(ho2.ok p hp).1, clear_new (w := w1) (q := p) (hhi2 p hp).1 (hhi2 p hp).2 (own_lt HO1.out.own)⟩
      have HO2 := Lib.hid (HO1.out.later hb2); have HB2 := Lib.hid (HB1.out.trans (hb2.mono HB1.out.size))
      clear hm2 ho2 hhi2 hb2 hr2 HR1 HS1 HM1 HO1 HB1
      have hle := HLE.out
      go_wp2_with (at_builtin; go_must (refine wpList_app2 w2 rfl (.tmp 9) (.tmp 14) 22 22 30 rfl y0.heap.size Try.underlying22 stm_info rfl _ l'.length (plsC l') HO2.out.own rfl _ l2.length (plsC l2) (Row.src HR2.out.row Try.underlying22 (plsC_one _)) rfl (by unfold maxLen; omega) (by omega) HB2.out.size ?_); intro v4 z4 ho hb hkp hv; have HO4 := Lib.hid (HO2.out.app (m := l2) HCL.out ho hkp hv); have HB4 := Lib.hid (HB2.out.trans hb); clear ho hb hkp hv)
      refine ⟨⟨j + 1, l' ++ l2, hlt, by go_num, Lib.hid ⟨HO4.out, ?_, HB4.out⟩⟩, by simp [intOf]; omega⟩
      rw [List.map_append, HM.out, HM2.out, HST.out]
    · have hlt2 : ¬ (j : Int) < 64 := by omega
      have HE : Hid (j = 64) := by unfold Hid; omega
      go_wp2_with fail
      go_ret
      exact ⟨_, rfl, l', by rw [HQ.out.2.1, HE.out]; rfl, HQ.out.1.mono (Nat.le_of_lt HGL.out), HNW.out.trans (HQ.out.2.2.mono HNW.out.size)⟩
end Go.Proofs.Ytdeojmgcofakeaa
/- The walk of the reference's Order over any list. -/
namespace Go.Proofs.Ytdeojmgcofakeaa
open Go.RowKit
/-- The order by time. -/
def beforeT (a b : Stm) : Bool := if a.time = b.time then (if a.author = b.author then decide (a.number < b.number) else decide (a.author < b.author)) else decide (a.time < b.time)
/-- Where a walk back from the k-th ends, over those that a test holds of. -/
def backK (f : Stm → Bool) (l : List Stm) : Nat → Nat
  | 0 => 0
  | k + 1 => if f (l.getD k noStm) then backK f l k else k + 1
theorem backK_le (f : Stm → Bool) (l : List Stm) : ∀ k, backK f l k ≤ k
  | 0 => Nat.le_refl _
  | k + 1 => by
    unfold backK
    split
    · exact Nat.le_succ_of_le (backK_le f l k)
    · exact Nat.le_refl _
theorem backK_go {f : Stm → Bool} {l : List Stm} {k : Nat} (h : f (l.getD k noStm) = true) : backK f l (k + 1) = backK f l k := by
  show (if f (l.getD k noStm) then backK f l k else k + 1) = _
  rw [if_pos h]
theorem backK_stop {f : Stm → Bool} {l : List Stm} {k : Nat} (h : f (l.getD k noStm) = false) : backK f l (k + 1) = k + 1 := by
  show (if f (l.getD k noStm) then backK f l k else k + 1) = _
  rw [if_neg (by rw [h]; decide)]
def insT (l : List Stm) (x : Stm) : List Stm := l.take (backK (beforeT x) l l.length) ++ x :: l.drop (backK (beforeT x) l l.length)
def orderS (l : List Stm) : List Stm := l.foldl insT []
theorem orderS_app (l : List Stm) (x : Stm) : orderS (l ++ [x]) = insT (orderS l) x := by
  unfold orderS
  rw [List.foldl_append]
  rfl
theorem insT_len (l : List Stm) (x : Stm) : (insT l x).length = l.length + 1 := by
  have := backK_le (beforeT x) l l.length
  unfold insT
  simp only [List.length_append, List.length_cons, List.length_take, List.length_drop]
  omega
theorem insT_mem {l : List Stm} {x s : Stm} : s ∈ insT l x ↔ s = x ∨ s ∈ l := by
  unfold insT
  generalize backK (beforeT x) l l.length = k
  constructor
  · intro h
    rcases List.mem_append.1 h with h | h
    · exact .inr (List.mem_of_mem_take h)
    · rcases List.mem_cons.1 h with h | h
      · exact .inl h
      · exact .inr (List.mem_of_mem_drop h)
  · intro h
    rcases h with h | h
    · exact List.mem_append.2 (.inr (List.mem_cons.2 (.inl h)))
    · rw [← List.take_append_drop k l] at h
      rcases List.mem_append.1 h with h | h
      · exact List.mem_append.2 (.inl h)
      · exact List.mem_append.2 (.inr (List.mem_cons.2 (.inr h)))
set_option maxRecDepth 100000 in
set_option maxHeartbeats 4000000 in
theorem beforeT_any (p q : Pl) (w : World) : Calls Try.prog 33 #[.agg p.arr, .agg q.arr] w (SaysL (.bool (beforeT p.s q.s)) w) := by
  have HV : Hid (beforeT p.s q.s = if p.s.time = q.s.time then (if p.s.author = q.s.author then decide (p.s.number < q.s.number) else decide (p.s.author < q.s.author)) else decide (p.s.time < q.s.time)) := Lib.hid rfl
  generalize beforeT p.s q.s = bb at HV ⊢
  have HX : Hid (((w.alloc (.cells p.arr 30)).alloc (.cells q.arr 30)).heap[w.heap.size]? = some (.cells p.arr 30 (0, 0))) := Lib.hid ((Below.heap_alloc _ _ _ (by simp)).trans (heap_alloc_new _ _))
  have HY : Hid (((w.alloc (.cells p.arr 30)).alloc (.cells q.arr 30)).heap[w.heap.size + 1]? = some (.cells q.arr 30 (0, 0))) := Lib.hid (heap_alloc2_new _ _ _)
  have HB : Hid (Below w.heap.size w ((w.alloc (.cells p.arr 30)).alloc (.cells q.arr 30))) := Lib.hid ((one_new w _).trans ((one_new _ _).mono (by simp)))
  go_enter Try.func33, Try.ntmps33
  have hc0 : ((w.alloc (.cells p.arr 30)).alloc (.cells q.arr 30)).cell? ⟨w.heap.size, 0, none⟩ = some (.int .i64 p.s.author) := (cell_of_row _ _ 0 _ _ _ HX.out).trans rfl
  have hc1 : ((w.alloc (.cells p.arr 30)).alloc (.cells q.arr 30)).cell? ⟨w.heap.size, 1, none⟩ = some (.int .i64 p.s.number) := (cell_of_row _ _ 1 _ _ _ HX.out).trans rfl
  have hc3 : ((w.alloc (.cells p.arr 30)).alloc (.cells q.arr 30)).cell? ⟨w.heap.size, 3, none⟩ = some (.int .i64 p.s.time) := (cell_of_row _ _ 3 _ _ _ HX.out).trans rfl
  have hd0 : ((w.alloc (.cells p.arr 30)).alloc (.cells q.arr 30)).cell? ⟨w.heap.size + 1, 0, none⟩ = some (.int .i64 q.s.author) := (cell_of_row _ _ 0 _ _ _ HY.out).trans rfl
  have hd1 : ((w.alloc (.cells p.arr 30)).alloc (.cells q.arr 30)).cell? ⟨w.heap.size + 1, 1, none⟩ = some (.int .i64 q.s.number) := (cell_of_row _ _ 1 _ _ _ HY.out).trans rfl
  have hd3 : ((w.alloc (.cells p.arr 30)).alloc (.cells q.arr 30)).cell? ⟨w.heap.size + 1, 3, none⟩ = some (.int .i64 q.s.time) := (cell_of_row _ _ 3 _ _ _ HY.out).trans rfl
  clear HX HY
  by_cases e0 : p.s.time = q.s.time
  · have b0 : (p.s.time != q.s.time) = false := by rw [e0]; simp
    rw [if_pos e0] at HV
    clear e0
    by_cases e1 : p.s.author = q.s.author
    · have b1 : (p.s.author != q.s.author) = false := by rw [e1]; simp
      rw [if_pos e1] at HV
      clear e1
      go_wp2_with fail
      go_ret
      exact ⟨by rw [HV.out]; first | done | rfl, HB.out⟩
    · have b1 : (p.s.author != q.s.author) = true := by rw [bne_iff_ne]; exact e1
      rw [if_neg e1] at HV
      clear e1
      go_wp2_with fail
      go_ret
      exact ⟨by rw [HV.out]; first | done | rfl, HB.out⟩
  · have b0 : (p.s.time != q.s.time) = true := by rw [bne_iff_ne]; exact e0
    rw [if_neg e0] at HV
    clear e0
    go_wp2_with fail
    go_ret
    exact ⟨by rw [HV.out]; first | done | rfl, HB.out⟩
set_option maxRecDepth 100000 in
set_option maxHeartbeats 4000000 in
theorem refOrder_any (A : Option Addr) (n c : Nat) (l : List Pl) (w : World) (hl : LRow w A n c l) (hn : n ≤ 100000) (hs : ∀ q ∈ l, Few q.s) :
    Calls Try.prog 16 #[.slice A n c] w fun e w' => ∃ A2 c2 l', e = .returned (.slice A2 (List.length l') c2) ∧ l'.map (·.s) = orderS (l.map (·.s)) ∧ LRow w' A2 l'.length c2 l' ∧ Below w.heap.size w w' := by
  have HL := Lib.hid hl; have HLN := Lib.hid hl.len; have HS := Lib.hid hs
  have HBE : Hid (∀ (y : World) (p q : Pl), Calls Try.prog 33 #[.agg p.arr, .agg q.arr] y (SaysL (.bool (beforeT p.s q.s)) y)) := Lib.hid fun y p q => beforeT_any p q y
  clear hl hs
  go_enter Try.func16, Try.ntmps16
  go_wp2_with fail
  go_loopw [3, 4] (fun v i wr => ∃ (j : Nat) (A1 : Option Addr) (c1 : Nat) (l' : List Pl), j ≤ n ∧ v = .slice A1 l'.length c1 ∧ i = .int .i64 j ∧ Hid (l'.length = j) ∧ Hid (LRow wr A1 l'.length c1 l' ∧ l'.map (·.s) = orderS ((l.take j).map (·.s)) ∧ Below w.heap.size w wr)) (fun _ i _ => n - (intOf i).toNat)
  case atStart => exact ⟨0, none, 0, [], Nat.zero_le _, rfl, rfl, Lib.hid rfl, Lib.hid ⟨LRow.nil _, rfl, Below.refl _ _⟩⟩
  case round =>
    obtain ⟨j, A1, c1, l', hj, rfl, rfl, HLJ, HQ⟩ := hrel
    by_cases hlt : j < n
    · have hlt2 : (j : Int) < (n : Int) := by omega
      have HO1 := Lib.hid HQ.out.1; have HB0 := Lib.hid HQ.out.2.2; have HL1 := Lib.hid (HL.out.later HQ.out.2.2)
      generalize hae : l.getD j noPl = a
      have HAE := Lib.hid hae; clear hae
      have HSA : Hid (Few a.s) := Lib.hid (by rw [← HAE.out]; exact HS.out _ (HL.out.get j hlt))
      have HPA : Hid (PlOk wr a) := Lib.hid (by rw [← HAE.out]; exact HL1.out.at j hlt)
      have HCP : Hid (∀ y, Below wr.heap.size wr y → Calls Try.prog 28 #[.agg a.arr] y (GivesP y a.s)) := Lib.hid fun y h => copyP_few a y (HPA.out.later h) HSA.out
      have HPE : Hid (orderS ((l.take (j + 1)).map (·.s)) = (l'.take (backK (beforeT a.s) (l'.map (·.s)) l'.length)).map (·.s) ++ a.s :: (l'.drop (backK (beforeT a.s) (l'.map (·.s)) l'.length)).map (·.s)) := Lib.hid (by
        rw [take_snocP l j (by rw [HLN.out]; exact hlt), List.map_append, HAE.out, List.map_cons, List.map_nil, orderS_app, ← HQ.out.2.1, insT, List.length_map, List.map_take, List.map_drop])
      have hK := backK_le (beforeT a.s) (l'.map (·.s)) l'.length
      have HKE : Hid (backK (beforeT a.s) (l'.map (·.s)) l'.length = backK (beforeT a.s) (l'.map (·.s)) l'.length) := Lib.hid rfl
      generalize hke : backK (beforeT a.s) (l'.map (·.s)) l'.length = K at HPE hK
      have HKK : Hid (backK (beforeT a.s) (l'.map (·.s)) l'.length = K) := Lib.hid hke
      have hll : l'.length ≤ 100000 := by have := HLJ.out; omega
      clear hke HKE HQ HPA HSA
      generalize hy0 : wr = y0 at *
      clear hy0
      go_wp2_with fail
      go_loopw [5] (fun k wk => ∃ q : Nat, q ≤ l'.length ∧ k = .int .i64 q ∧ Hid (backK (beforeT a.s) (l'.map (·.s)) q = K ∧ Below y0.heap.size y0 wk)) (fun k _ => (intOf k).toNat)
      case atStart => exact ⟨l'.length, Nat.le_refl _, rfl, Lib.hid ⟨HKK.out, Below.refl _ _⟩⟩
      case round =>
        obtain ⟨q, hq, rfl, HQ⟩ := hrel
        clear HKK
        by_cases hq0 : 0 < q
        · have hml : q - 1 < l'.length := by omega
          have hq2 : (0 : Int) < (q : Int) := by omega
          have e0 : (0 : Int) ≤ (q : Int) - 1 := by omega
          have e1 : (q : Int) - 1 < (l'.length : Int) := by omega
          have e2 : ((q : Int) - 1).toNat = q - 1 := by omega
          go_wp2_with fail
          refine wp_region_grow (by kernel_rfl) Later Later.refl (fun _ _ _ => Later.trans) [13] [([0, 1, 2, 3, 4, 5, 6, 7, 8, 9, 10, 11], 12)] (by kernel_rfl) (by kernel_rfl) (by kernel_rfl) ?_
          simp only [List.map_cons, List.map_nil, pick, List.getD_cons_zero, List.getD_cons_succ]
          have HB4 : Hid (Below y0.heap.size y0 wr.drew) := Lib.hid HQ.out.2.drew
          have HBK : Hid (backK (beforeT a.s) (l'.map (·.s)) ((q - 1) + 1) = K) := Lib.hid (by rw [show q - 1 + 1 = q by omega]; exact HQ.out.1)
          clear HQ
          generalize wr.drew = z4 at *
          obtain ⟨b1, off1, hA1, hf1⟩ := LRow.futs (F := Later) Later.refl (fun _ h => h) (HL1.out.later HB4.out) j hlt
          subst hA1
          rw [HAE.out] at hf1
          obtain ⟨b2, off2, hA2, hf2⟩ := LRow.futs (F := Later) Later.refl (fun _ h => h) (HO1.out.later HB4.out) (q - 1) hml
          subst hA2
          generalize hbe : l'.getD (q - 1) noPl = b at hf2
          have HBT : Hid ((l'.map (·.s)).getD (q - 1) noStm = b.s) := Lib.hid (by rw [getD_s, hbe])
          clear hbe
          have hf1c := cells_futs hf1
          have hf2c := cells_futs hf2
          clear hf1 hf2
          refine wpGrow_cons ?_
          repeat (first | (refine wpQuiet_load rfl 30 (.tmp 19) rfl ⟨b1, off1 + j * 13, none⟩ rfl (.agg a.arr) (fun w' h => by obtain ⟨x, rfl⟩ := h; exact hf1c x) ?_; simp only [Act.put, List.setIfInBounds_toArray, List.set_cons_succ, List.set_cons_zero]) | (refine wpQuiet_load rfl 30 (.tmp 24) rfl ⟨b2, off2 + (q - 1) * 13, none⟩ rfl (.agg b.arr) (fun w' h => by obtain ⟨x, rfl⟩ := h; exact hf2c x) ?_; simp only [Act.put, List.setIfInBounds_toArray, List.set_cons_succ, List.set_cons_zero]) | go_big_quiet_step (fail))
          refine wpQuiet_nil ?_
          clear hf1c hf2c
          go_wp2_with fail
          refine (HBE.out z4 a b).mono ?_
          rintro e w5 ⟨rfl, hb⟩
          have HF : Hid (Later z4 w5) := Lib.hid hb; have HB6 := Lib.hid (HB4.out.trans (hb.mono HB4.out.size)); clear hb HB4
          by_cases hbb : beforeT a.s b.s = true
          · have HBK2 : Hid (backK (beforeT a.s) (l'.map (·.s)) (q - 1) = K) := Lib.hid (by rw [← HBK.out, backK_go (by rw [HBT.out]; exact hbb)])
            rw [hbb]
            clear hbb HBT
            go_wp2_with fail
            refine pieceEnd_normal ⟨HF.out, ?_⟩
            clear HF
            refine wpGrow_nil ?_
            repeat (go_big_quiet_step (fail))
            refine wpQuiet_nil ?_
            go_wp2_with fail
            exact ⟨⟨q - 1, by omega, by go_num, Lib.hid ⟨HBK2.out, HB6.out⟩⟩, by simp [intOf]; omega⟩
          · have HBK2 : Hid (q - 1 + 1 = K) := Lib.hid (by rw [← HBK.out, backK_stop (by rw [HBT.out]; simpa using hbb)])
            rw [show beforeT a.s b.s = false by simpa using hbb]
            clear hbb HBT HBK
            go_wp2_with fail
            refine pieceEnd_normal ⟨HF.out, ?_⟩
            clear HF
            refine wpGrow_nil ?_
            repeat (go_big_quiet_step (fail))
            refine wpQuiet_nil ?_
            go_wp2_with fail
            have hKq : K = q := by have := HBK2.out; omega
            subst hKq
            clear HBK2
            have hs1 := fun w' => run_slice_to (P := Try.prog) (t := 22) Try.underlying22 stm_size6 (w0 := y0) HO1.out.row (i := (K : Int)) rfl hK .i64 w'
            have hs2 := fun w' => run_slice_from (P := Try.prog) (t := 22) Try.underlying22 stm_size6 (A := (some ⟨b2, off2, none⟩)) (n := l'.length) (c := c1) (k := K) (i := (K : Int)) rfl hK .i64 w'
            refine wp_region_grow (by kernel_rfl) (Below w5.drew.heap.size) (Below.refl w5.drew.heap.size) (fun _ _ _ => Below.trans) [15] [([0, 1, 2, 4, 5, 6, 7, 11, 12, 13], 3), ([], 8), ([], 9), ([], 10), ([], 14)] (by kernel_rfl) (by kernel_rfl) (by kernel_rfl) ?_
            simp only [List.map_cons, List.map_nil, pick, List.getD_cons_zero, List.getD_cons_succ]
            have HB5 : Hid (Below y0.heap.size y0 w5.drew) := Lib.hid HB6.out.drew
            clear HB6
            generalize w5.drew = u0 at *
            have HLT := Lib.hid ((HO1.out.later HB5.out).take K hK); have HLD := Lib.hid ((HO1.out.later HB5.out).drop K hK)
            have hk1 : (l'.take K).length = K := by rw [List.length_take]; omega
            have hk2 : (l'.drop K).length = l'.length - K := List.length_drop
            obtain ⟨b1, off1, hA1, hf1⟩ := LRow.futs (F := Below u0.heap.size) (Below.refl u0.heap.size) (fun _ h => h) (HL1.out.later HB5.out) j hlt
            first | subst hA1 | (injection hA1 with hA1; injection hA1 with h1 h2; subst h1 h2)
            rw [HAE.out] at hf1
            have hgl := cells_futs hf1
            clear hf1
            generalize dropA (some ⟨b2, off2, none⟩) c1 K 13 = AD at hs2 HLD
            generalize l'.take K = l1 at *
            generalize l'.drop K = l2 at *
            refine wpGrow_cons ?_
            repeat (first | (refine wpQuiet_load rfl 30 (.tmp 36) rfl ⟨b1, off1 + j * 13, none⟩ rfl (.agg a.arr) (fun w' h => by obtain ⟨x, rfl⟩ := h; exact hgl x) ?_; simp only [Act.put, List.setIfInBounds_toArray, List.set_cons_succ, List.set_cons_zero]) | go_big_quiet_step (fail))
            refine wpQuiet_nil ?_
            clear hs1 hs2 hgl
            go_wp2_with (at_builtin; go_must (refine wpList_app u0 rfl (.const (.slice none 0 0)) (.tmp 32) 22 22 30 rfl u0.heap.size Try.underlying22 stm_info rfl _ 0 [] (World.ownsRow_nil _ _ _ _) rfl _ K (plsC l1) (Row.src HLT.out.row Try.underlying22 (plsC_one _)) rfl (by unfold maxLen; omega) (by omega) (Nat.le_refl _) ?_); intro v1 z1 ho hb; rw [Nat.zero_add, List.nil_append, ← hk1] at ho; have HO2 : Hid (LOwn z1 u0.heap.size v1 l1) := Lib.hid ⟨ho, fun r hr => ⟨(HLT.out.ok r hr).later hb, (HLT.out.ok r hr).clear (own_ge ho)⟩⟩; have HU := Lib.hid hb; clear ho hb)
            refine pieceEnd_normal ⟨HU.out, ?_⟩
            refine wpGrow_cons ?_
            refine wpQuiet_nil ?_
            go_wp2_with fail
            refine (HCP.out z1 (HB5.out.trans (HU.out.mono HB5.out.size))).mono ?_
            rintro e z2 ⟨r, rfl, hrs, hro, hna, hnb, hb⟩
            have HRS := Lib.hid hrs; have HRO := Lib.hid hro
            have HCL := Lib.hid (clear_new (q := r) hna hnb (own_lt HO2.out.own))
            have HF : Hid (Below u0.heap.size z1 z2) := Lib.hid (hb.mono HU.out.size)
            have HO3 := Lib.hid (HO2.out.later hb); replace HU := Lib.hid (HU.out.trans HF.out)
            clear hrs hro hna hnb hb HO2
            go_wp2_with fail
            refine pieceEnd_normal ⟨HF.out, ?_⟩
            clear HF
            refine wpGrow_cons ?_
            refine wpQuiet_nil ?_
            have hvs : r.arr.size = 13 := rfl
            go_wp2_with fail
            (first | rw [fold13] | (rw [← hvs, fold13]))
            refine pieceEnd_normal ⟨(one_new z2 _).mono HU.out.size, ?_⟩
            have HNX := Lib.hid (one_new z2 (.cells r.arr 30))
            have HR3 : Hid (Row (z2.alloc (.cells r.arr 30)) (some ⟨z2.heap.size, 0, none⟩) 1 1 13 (plsC [r])) := Lib.hid (Row.of_block (heap_alloc_new _ _) rfl)
            replace HRO := Lib.hid (HRO.out.later HNX.out)
            have HO4 := Lib.hid (HO3.out.later HNX.out)
            replace HU := Lib.hid (HU.out.trans (HNX.out.mono HU.out.size))
            clear HO3 HNX
            generalize z2.alloc (.cells r.arr 30) = z3 at *
            refine wpGrow_cons ?_
            refine wpQuiet_nil ?_
            go_wp2_with (at_builtin; go_must (refine wpList_app2 z3 rfl (.tmp 33) (.tmp 39) 22 22 30 rfl u0.heap.size Try.underlying22 stm_info rfl _ l1.length (plsC l1) HO4.out.own rfl (.slice (some ⟨z2.heap.size, 0, none⟩) 1 1) 1 (plsC [r]) (Row.src HR3.out Try.underlying22 (plsC_one _)) rfl (by unfold maxLen; omega) (by omega) HU.out.size ?_); intro v4 z4 ho hb hkp hv; have HO5 := Lib.hid (HO4.out.app (m := [r]) (fun x hx => by rw [List.mem_singleton.1 hx]; exact ⟨HRO.out, HCL.out⟩) ho hkp hv); have HF : Hid (Below u0.heap.size z3 z4) := Lib.hid hb; replace HU := Lib.hid (HU.out.trans hb); clear ho hb hkp hv)
            refine pieceEnd_normal ⟨HF.out, ?_⟩
            clear HF HR3 HO4
            refine wpGrow_cons ?_
            refine wpQuiet_nil ?_
            have HD4 := Lib.hid (HLD.out.later HU.out)
            have HC4 : Hid (∀ x ∈ l2, PlOk z4 x ∧ Clear v4 x) := Lib.hid fun x hx => ⟨HD4.out.ok x hx, (HLD.out.ok x hx).clear (own_ge HO5.out.own)⟩
            have hk4 : (l1 ++ [r]).length = K + 1 := by rw [List.length_append, hk1]; rfl
            go_wp2_with (at_builtin; go_must (refine wpList_app2 z4 rfl (.tmp 40) (.tmp 43) 22 22 30 rfl u0.heap.size Try.underlying22 stm_info rfl _ (l1 ++ [r]).length _ HO5.out.own rfl _ (l'.length - K) (plsC l2) (Row.src HD4.out.row Try.underlying22 (plsC_one _)) rfl (by unfold maxLen; omega) (by omega) HU.out.size ?_); intro v5 z5 ho hb hkp hv; rw [← hk2] at ho; have HO6 := Lib.hid (HO5.out.app (m := l2) HC4.out ho hkp hv); have HF : Hid (Below u0.heap.size z4 z5) := Lib.hid hb; replace HU := Lib.hid (HU.out.trans hb); clear ho hb hkp hv)
            refine pieceEnd_normal ⟨HF.out, ?_⟩
            clear HF HO5 HD4 HC4
            refine wpGrow_nil ?_
            repeat (go_big_quiet_step (fail))
            refine wpQuiet_nil ?_
            go_wp2_with fail
            obtain ⟨A5, c5, hv5, hr5⟩ := HO6.out.row
            subst hv5
            have hlen : (l1 ++ [r] ++ l2).length = j + 1 := by rw [List.length_append, hk4, hk2]; have := HLJ.out; omega
            exact ⟨⟨j + 1, A5, c5, l1 ++ [r] ++ l2, hlt, rfl, by go_num, Lib.hid hlen, Lib.hid ⟨hr5, by rw [HPE.out, List.map_append, List.map_append, List.map_cons, List.map_nil, HRS.out, List.append_assoc]; rfl, HB0.out.trans ((HB5.out.trans (HU.out.mono HB5.out.size)).mono HB0.out.size)⟩⟩, by simp [intOf]; omega⟩
        · have hq2 : ¬ (0 : Int) < (q : Int) := by omega
          have HK0 : Hid (K = 0) := Lib.hid (by have h := HQ.out.1; rw [show q = 0 by omega] at h; exact h.symm)
          go_wp2_with fail
          refine wp_region_grow (by kernel_rfl) Later Later.refl (fun _ _ _ => Later.trans) [13] [([0, 1, 2, 3, 4, 5, 6, 7, 8, 9, 10, 11], 12)] (by kernel_rfl) (by kernel_rfl) (by kernel_rfl) ?_
          simp only [List.map_cons, List.map_nil, pick, List.getD_cons_zero, List.getD_cons_succ]
          have HB4 : Hid (Below y0.heap.size y0 wr.drew) := Lib.hid HQ.out.2.drew
          clear HQ
          generalize wr.drew = z4 at *
          refine wpGrow_cons ?_
          repeat (go_big_quiet_step (fail))
          refine wpQuiet_nil ?_
          go_wp2_with fail
          have HF : Hid (Later z4 z4) := Lib.hid (Later.refl _)
          go_wp2_with fail
          refine pieceEnd_normal ⟨HF.out, ?_⟩
          clear HF
          refine wpGrow_nil ?_
          repeat (go_big_quiet_step (fail))
          refine wpQuiet_nil ?_
          go_wp2_with fail
          have hKq : K = q := by have := HK0.out; omega
          subst hKq
          clear HK0
          have hs1 := fun w' => run_slice_to (P := Try.prog) (t := 22) Try.underlying22 stm_size6 (w0 := y0) HO1.out.row (i := (K : Int)) rfl hK .i64 w'
          have hs2 := fun w' => run_slice_from (P := Try.prog) (t := 22) Try.underlying22 stm_size6 (A := A1) (n := l'.length) (c := c1) (k := K) (i := (K : Int)) rfl hK .i64 w'
          refine wp_region_grow (by kernel_rfl) (Below z4.drew.heap.size) (Below.refl z4.drew.heap.size) (fun _ _ _ => Below.trans) [15] [([0, 1, 2, 4, 5, 6, 7, 11, 12, 13], 3), ([], 8), ([], 9), ([], 10), ([], 14)] (by kernel_rfl) (by kernel_rfl) (by kernel_rfl) ?_
          simp only [List.map_cons, List.map_nil, pick, List.getD_cons_zero, List.getD_cons_succ]
          have HB5 : Hid (Below y0.heap.size y0 z4.drew) := Lib.hid HB4.out.drew
          clear HB4
          generalize z4.drew = u0 at *
          have HLT := Lib.hid ((HO1.out.later HB5.out).take K hK); have HLD := Lib.hid ((HO1.out.later HB5.out).drop K hK)
          have hk1 : (l'.take K).length = K := by rw [List.length_take]; omega
          have hk2 : (l'.drop K).length = l'.length - K := List.length_drop
          obtain ⟨b1, off1, hA1, hf1⟩ := LRow.futs (F := Below u0.heap.size) (Below.refl u0.heap.size) (fun _ h => h) (HL1.out.later HB5.out) j hlt
          first | subst hA1 | (injection hA1 with hA1; injection hA1 with h1 h2; subst h1 h2)
          rw [HAE.out] at hf1
          have hgl := cells_futs hf1
          clear hf1
          generalize dropA A1 c1 K 13 = AD at hs2 HLD
          generalize l'.take K = l1 at *
          generalize l'.drop K = l2 at *
          refine wpGrow_cons ?_
          repeat (first | (refine wpQuiet_load rfl 30 (.tmp 36) rfl ⟨b1, off1 + j * 13, none⟩ rfl (.agg a.arr) (fun w' h => by obtain ⟨x, rfl⟩ := h; exact hgl x) ?_; simp only [Act.put, List.setIfInBounds_toArray, List.set_cons_succ, List.set_cons_zero]) | go_big_quiet_step (fail))
          refine wpQuiet_nil ?_
          clear hs1 hs2 hgl
          go_wp2_with (at_builtin; go_must (refine wpList_app u0 rfl (.const (.slice none 0 0)) (.tmp 32) 22 22 30 rfl u0.heap.size Try.underlying22 stm_info rfl _ 0 [] (World.ownsRow_nil _ _ _ _) rfl _ K (plsC l1) (Row.src HLT.out.row Try.underlying22 (plsC_one _)) rfl (by unfold maxLen; omega) (by omega) (Nat.le_refl _) ?_); intro v1 z1 ho hb; rw [Nat.zero_add, List.nil_append, ← hk1] at ho; have HO2 : Hid (LOwn z1 u0.heap.size v1 l1) := Lib.hid ⟨ho, fun r hr => ⟨(HLT.out.ok r hr).later hb, (HLT.out.ok r hr).clear (own_ge ho)⟩⟩; have HU := Lib.hid hb; clear ho hb)
          refine pieceEnd_normal ⟨HU.out, ?_⟩
          refine wpGrow_cons ?_
          refine wpQuiet_nil ?_
          go_wp2_with fail
          refine (HCP.out z1 (HB5.out.trans (HU.out.mono HB5.out.size))).mono ?_
          rintro e z2 ⟨r, rfl, hrs, hro, hna, hnb, hb⟩
          have HRS := Lib.hid hrs; have HRO := Lib.hid hro
          have HCL := Lib.hid (clear_new (q := r) hna hnb (own_lt HO2.out.own))
          have HF : Hid (Below u0.heap.size z1 z2) := Lib.hid (hb.mono HU.out.size)
          have HO3 := Lib.hid (HO2.out.later hb); replace HU := Lib.hid (HU.out.trans HF.out)
          clear hrs hro hna hnb hb HO2
          go_wp2_with fail
          refine pieceEnd_normal ⟨HF.out, ?_⟩
          clear HF
          refine wpGrow_cons ?_
          refine wpQuiet_nil ?_
          have hvs : r.arr.size = 13 := rfl
          go_wp2_with fail
          (first | rw [fold13] | (rw [← hvs, fold13]))
          refine pieceEnd_normal ⟨(one_new z2 _).mono HU.out.size, ?_⟩
          have HNX := Lib.hid (one_new z2 (.cells r.arr 30))
          have HR3 : Hid (Row (z2.alloc (.cells r.arr 30)) (some ⟨z2.heap.size, 0, none⟩) 1 1 13 (plsC [r])) := Lib.hid (Row.of_block (heap_alloc_new _ _) rfl)
          replace HRO := Lib.hid (HRO.out.later HNX.out)
          have HO4 := Lib.hid (HO3.out.later HNX.out)
          replace HU := Lib.hid (HU.out.trans (HNX.out.mono HU.out.size))
          clear HO3 HNX
          generalize z2.alloc (.cells r.arr 30) = z3 at *
          refine wpGrow_cons ?_
          refine wpQuiet_nil ?_
          go_wp2_with (at_builtin; go_must (refine wpList_app2 z3 rfl (.tmp 33) (.tmp 39) 22 22 30 rfl u0.heap.size Try.underlying22 stm_info rfl _ l1.length (plsC l1) HO4.out.own rfl (.slice (some ⟨z2.heap.size, 0, none⟩) 1 1) 1 (plsC [r]) (Row.src HR3.out Try.underlying22 (plsC_one _)) rfl (by unfold maxLen; omega) (by omega) HU.out.size ?_); intro v4 z4 ho hb hkp hv; have HO5 := Lib.hid (HO4.out.app (m := [r]) (fun x hx => by rw [List.mem_singleton.1 hx]; exact ⟨HRO.out, HCL.out⟩) ho hkp hv); have HF : Hid (Below u0.heap.size z3 z4) := Lib.hid hb; replace HU := Lib.hid (HU.out.trans hb); clear ho hb hkp hv)
          refine pieceEnd_normal ⟨HF.out, ?_⟩
          clear HF HR3 HO4
          refine wpGrow_cons ?_
          refine wpQuiet_nil ?_
          have HD4 := Lib.hid (HLD.out.later HU.out)
          have HC4 : Hid (∀ x ∈ l2, PlOk z4 x ∧ Clear v4 x) := Lib.hid fun x hx => ⟨HD4.out.ok x hx, (HLD.out.ok x hx).clear (own_ge HO5.out.own)⟩
          have hk4 : (l1 ++ [r]).length = K + 1 := by rw [List.length_append, hk1]; rfl
          go_wp2_with (at_builtin; go_must (refine wpList_app2 z4 rfl (.tmp 40) (.tmp 43) 22 22 30 rfl u0.heap.size Try.underlying22 stm_info rfl _ (l1 ++ [r]).length _ HO5.out.own rfl _ (l'.length - K) (plsC l2) (Row.src HD4.out.row Try.underlying22 (plsC_one _)) rfl (by unfold maxLen; omega) (by omega) HU.out.size ?_); intro v5 z5 ho hb hkp hv; rw [← hk2] at ho; have HO6 := Lib.hid (HO5.out.app (m := l2) HC4.out ho hkp hv); have HF : Hid (Below u0.heap.size z4 z5) := Lib.hid hb; replace HU := Lib.hid (HU.out.trans hb); clear ho hb hkp hv)
          refine pieceEnd_normal ⟨HF.out, ?_⟩
          clear HF HO5 HD4 HC4
          refine wpGrow_nil ?_
          repeat (go_big_quiet_step (fail))
          refine wpQuiet_nil ?_
          go_wp2_with fail
          obtain ⟨A5, c5, hv5, hr5⟩ := HO6.out.row
          subst hv5
          have hlen : (l1 ++ [r] ++ l2).length = j + 1 := by rw [List.length_append, hk4, hk2]; have := HLJ.out; omega
          exact ⟨⟨j + 1, A5, c5, l1 ++ [r] ++ l2, hlt, rfl, by go_num, Lib.hid hlen, Lib.hid ⟨hr5, by rw [HPE.out, List.map_append, List.map_append, List.map_cons, List.map_nil, HRS.out, List.append_assoc]; rfl, HB0.out.trans ((HB5.out.trans (HU.out.mono HB5.out.size)).mono HB0.out.size)⟩⟩, by simp [intOf]; omega⟩
    · have hlt2 : ¬ (j : Int) < (n : Int) := by omega
      have HE : Hid (j = n) := by unfold Hid; omega
      go_wp2_with fail
      go_ret
      exact ⟨A1, c1, l', rfl, by rw [HQ.out.2.1, HE.out, List.take_of_length_le (by rw [HLN.out]; exact Nat.le_refl _)], HQ.out.1, HQ.out.2.2⟩
end Go.Proofs.Ytdeojmgcofakeaa
/- Plain facts on lists of statements by time: what until, windows, order and the latest time come to; what counts is linked. -/
namespace Go.Proofs.Ytdeojmgcofakeaa
open Go.RowKit
theorem beforeT_iff (a b : Stm) : beforeT a b = true ↔ a.time < b.time ∨ (a.time = b.time ∧ (a.author < b.author ∨ (a.author = b.author ∧ a.number < b.number))) := by
  unfold beforeT
  split
  · rename_i h1
    split
    · rename_i h2
      rw [decide_eq_true_eq]; omega
    · rename_i h2
      rw [decide_eq_true_eq]; omega
  · rename_i h1
    rw [decide_eq_true_eq]; omega
/-- Not behind. -/
def leT (a b : Stm) : Prop := beforeT b a = false
theorem leT_iff (a b : Stm) : leT a b ↔ ¬ (b.time < a.time ∨ (b.time = a.time ∧ (b.author < a.author ∨ (b.author = a.author ∧ b.number < a.number)))) := by
  unfold leT
  rw [← beforeT_iff, Bool.not_eq_true]
theorem leT_trans {a b c : Stm} (h : leT a b) (k : leT b c) : leT a c := by
  rw [leT_iff] at *; omega
theorem leT_of {a b : Stm} (h : beforeT a b = true) : leT a b := by
  rw [beforeT_iff] at h; rw [leT_iff]; omega
theorem leT_time {a b : Stm} (h : leT a b) : a.time ≤ b.time := by
  rw [leT_iff] at h; omega
def SortedT (l : List Stm) : Prop := l.Pairwise leT
theorem getD_mem7 {l : List Stm} {i : Nat} (h : i < l.length) : l.getD i noStm ∈ l := by
  rw [List.getD_eq_getElem?_getD, List.getElem?_eq_getElem h]; exact List.getElem_mem _
theorem sorted_at {l : List Stm} (h : SortedT l) {i j : Nat} (hij : i < j) (hj : j < l.length) : leT (l.getD i noStm) (l.getD j noStm) := by
  have h1 := List.pairwise_iff_getElem.1 h i j (by omega) hj hij
  rw [List.getD_eq_getElem?_getD, List.getElem?_eq_getElem (by omega : i < l.length), List.getD_eq_getElem?_getD, List.getElem?_eq_getElem hj]
  exact h1
/-- Behind where the walk ends the test holds, and not at its end. -/
theorem backK_hi (f : Stm → Bool) (l : List Stm) : ∀ k i, backK f l k ≤ i → i < k → f (l.getD i noStm) = true
  | 0, i, _, h => absurd h (Nat.not_lt_zero _)
  | k + 1, i, h1, h2 => by
    by_cases hf : f (l.getD k noStm) = true
    · rw [backK_go hf] at h1
      by_cases he : i = k
      · rw [he]; exact hf
      · exact backK_hi f l k i h1 (by omega)
    · rw [backK_stop (by simpa using hf)] at h1
      omega
theorem backK_lo (f : Stm → Bool) (l : List Stm) : ∀ k, 0 < backK f l k → f (l.getD (backK f l k - 1) noStm) = false
  | 0, h => absurd h (Nat.lt_irrefl _)
  | k + 1, h => by
    by_cases hf : f (l.getD k noStm) = true
    · rw [backK_go hf] at h ⊢
      exact backK_lo f l k h
    · rw [backK_stop (by simpa using hf)]
      simpa using hf
theorem mem_take7 {l : List Stm} {k : Nat} {s : Stm} (h : s ∈ l.take k) : ∃ i, i < k ∧ i < l.length ∧ l.getD i noStm = s := by
  obtain ⟨i, hi, he⟩ := List.mem_iff_getElem.1 h
  rw [List.length_take] at hi
  refine ⟨i, by omega, by omega, ?_⟩
  rw [List.getElem_take] at he
  rw [List.getD_eq_getElem?_getD, List.getElem?_eq_getElem (by omega : i < l.length)]
  exact he
theorem mem_drop7 {l : List Stm} {k : Nat} {s : Stm} (h : s ∈ l.drop k) : ∃ i, k ≤ i ∧ i < l.length ∧ l.getD i noStm = s := by
  obtain ⟨i, hi, he⟩ := List.mem_iff_getElem.1 h
  rw [List.length_drop] at hi
  refine ⟨k + i, by omega, by omega, ?_⟩
  rw [List.getElem_drop] at he
  rw [List.getD_eq_getElem?_getD, List.getElem?_eq_getElem (by omega : k + i < l.length)]
  exact he
theorem insT_sorted {l : List Stm} (h : SortedT l) (x : Stm) : SortedT (insT l x) := by
  unfold insT
  have hle := backK_le (beforeT x) l l.length
  have hhi := backK_hi (beforeT x) l l.length
  have hlo := backK_lo (beforeT x) l l.length
  generalize backK (beforeT x) l l.length = k at *
  have hA : ∀ a ∈ l.take k, leT a x := fun a ha => by
    obtain ⟨i, h1, h2, rfl⟩ := mem_take7 ha
    have h3 : leT (l.getD (k - 1) noStm) x := hlo (by omega)
    by_cases he : i = k - 1
    · rw [he]; exact h3
    · exact leT_trans (sorted_at h (by omega : i < k - 1) (by omega)) h3
  have hB : ∀ b ∈ l.drop k, leT x b := fun b hb => by
    obtain ⟨i, h1, h2, rfl⟩ := mem_drop7 hb
    exact leT_of (hhi i h1 h2)
  refine List.pairwise_append.2 ⟨h.sublist (List.take_sublist _ _), List.pairwise_cons.2 ⟨hB, h.sublist (List.drop_sublist _ _)⟩, fun a ha b hb => ?_⟩
  rcases List.mem_cons.1 hb with hb | hb
  · rw [hb]; exact hA a ha
  · exact leT_trans (hA a ha) (hB b hb)
theorem foldT_sorted : ∀ (l m : List Stm), SortedT m → SortedT (l.foldl insT m)
  | [], _, h => h
  | x :: l, m, h => foldT_sorted l (insT m x) (insT_sorted h x)
theorem orderS_sorted (l : List Stm) : SortedT (orderS l) := foldT_sorted l [] List.Pairwise.nil
theorem foldT_len : ∀ (l m : List Stm), (l.foldl insT m).length = m.length + l.length
  | [], m => rfl
  | x :: l, m => by
    have h := foldT_len l (insT m x)
    rw [insT_len] at h
    simp only [List.foldl_cons, List.length_cons]; omega
theorem orderS_len (l : List Stm) : (orderS l).length = l.length := by have := foldT_len l []; simpa [orderS] using this
theorem foldT_mem : ∀ (l m : List Stm) (s : Stm), s ∈ l.foldl insT m ↔ s ∈ m ∨ s ∈ l
  | [], m, s => by simp
  | x :: l, m, s => by
    rw [List.foldl_cons, foldT_mem l (insT m x) s, insT_mem, List.mem_cons]
    constructor
    · rintro ((h | h) | h)
      · exact .inr (.inl h)
      · exact .inl h
      · exact .inr (.inr h)
    · rintro (h | (h | h))
      · exact .inl (.inr h)
      · exact .inl (.inl h)
      · exact .inr h
theorem orderS_mem (l : List Stm) (s : Stm) : s ∈ orderS l ↔ s ∈ l := by
  unfold orderS; rw [foldT_mem]; simp
/-- What is ordered stays so. -/
theorem insT_last {l : List Stm} {x : Stm} (h : ∀ a ∈ l, leT a x) : insT l x = l ++ [x] := by
  have hk : backK (beforeT x) l l.length = l.length := by
    cases hl : l.length with
    | zero => rfl
    | succ n => exact backK_stop (h _ (getD_mem7 (by omega)))
  unfold insT
  rw [hk, List.take_of_length_le (Nat.le_refl _), List.drop_of_length_le (Nat.le_refl _)]
theorem foldT_same : ∀ (l m : List Stm), SortedT (m ++ l) → l.foldl insT m = m ++ l
  | [], m, _ => by simp
  | x :: l, m, h => by
    have h1 : ∀ a ∈ m, leT a x := fun a ha => (List.pairwise_append.1 h).2.2 a ha x (List.mem_cons.2 (.inl rfl))
    rw [List.foldl_cons, insT_last h1, foldT_same l (m ++ [x]) (by rw [List.append_assoc]; exact h), List.append_assoc]
    rfl
theorem orderS_same {l : List Stm} (h : SortedT l) : orderS l = l := by
  have := foldT_same l [] h
  simpa [orderS] using this
theorem orderS_idem (l : List Stm) : orderS (orderS l) = orderS l := orderS_same (orderS_sorted l)
/-- The latest time of the first j; -1 without one. -/
def latestUp (l : List Stm) : Nat → Int
  | 0 => -1
  | j + 1 => if j = 0 ∨ latestUp l j < (l.getD j noStm).time then (l.getD j noStm).time else latestUp l j
def latestS (l : List Stm) : Int := latestUp l l.length
theorem latestUp_ge (l : List Stm) : ∀ j i, i < j → (l.getD i noStm).time ≤ latestUp l j
  | 0, i, h => absurd h (Nat.not_lt_zero _)
  | j + 1, i, h => by
    unfold latestUp
    split
    · rename_i hc
      by_cases he : i = j
      · rw [he]; exact Int.le_refl _
      · have h1 := latestUp_ge l j i (by omega)
        rcases hc with hc | hc <;> omega
    · rename_i hc
      by_cases he : i = j
      · rw [he]; omega
      · exact latestUp_ge l j i (by omega)
theorem latestUp_mem (l : List Stm) : ∀ j, 0 < j → ∃ i, i < j ∧ latestUp l j = (l.getD i noStm).time
  | 0, h => absurd h (Nat.lt_irrefl _)
  | j + 1, _ => by
    unfold latestUp
    split
    · exact ⟨j, by omega, rfl⟩
    · rename_i hc
      obtain ⟨i, h1, h2⟩ := latestUp_mem l j (by omega)
      exact ⟨i, by omega, h2⟩
/-- The last one of an ordered list has the latest time. -/
theorem latest_last (l : List Stm) (h : 0 < l.length) : latestS l = ((orderS l).getD ((orderS l).length - 1) noStm).time := by
  have hlen := orderS_len l
  obtain ⟨i, h1, h2⟩ := latestUp_mem l l.length h
  have hm : l.getD i noStm ∈ orderS l := (orderS_mem l _).2 (getD_mem7 h1)
  obtain ⟨k, hk, hke⟩ := List.mem_iff_getElem.1 hm
  have hkd : (orderS l).getD k noStm = l.getD i noStm := by rw [List.getD_eq_getElem?_getD, List.getElem?_eq_getElem hk]; exact hke
  have hle : latestS l ≤ ((orderS l).getD ((orderS l).length - 1) noStm).time := by
    unfold latestS
    rw [h2, ← hkd]
    by_cases he : k = (orderS l).length - 1
    · rw [he]; exact Int.le_refl _
    · exact leT_time (sorted_at (orderS_sorted l) (by omega) (by omega))
  have hge : ((orderS l).getD ((orderS l).length - 1) noStm).time ≤ latestS l := by
    have hm2 : (orderS l).getD ((orderS l).length - 1) noStm ∈ l := (orderS_mem l _).1 (getD_mem7 (by omega))
    obtain ⟨j, hj, hje⟩ := List.mem_iff_getElem.1 hm2
    have := latestUp_ge l l.length j hj
    rw [List.getD_eq_getElem?_getD, List.getElem?_eq_getElem hj] at this
    rw [← hje]; exact this
  omega
/-- Each statement but those with the number 0 stands behind the one before it. -/
def Linked : Option Stm → List Stm → Prop
  | _, [] => True
  | o, s :: l => (0 < s.number → ∃ p, o = some p ∧ p.author = s.author ∧ p.number = s.number - 1 ∧ p.time ≤ s.time) ∧ Linked (some s) l
theorem Linked.any : ∀ {l : List Stm} {o : Option Stm}, Linked none l → Linked o l
  | [], _, _ => trivial
  | _ :: _, _, h => ⟨fun h0 => (by obtain ⟨p, hp, _⟩ := h.1 h0; cases hp), h.2⟩
theorem Linked.app : ∀ {l m : List Stm} {o : Option Stm}, Linked o l → Linked none m → Linked o (l ++ m)
  | [], _, _, _, h => h.any
  | _ :: _, _, _, h, k => ⟨h.1, h.2.app k⟩
theorem Linked.until (tm : Int) : ∀ {l : List Stm} {o o' : Option Stm}, Linked o l → (∀ p, o = some p → p.time ≤ tm → o' = some p) → Linked o' (untilS tm l)
  | [], _, _, _, _ => trivial
  | s :: l, o, o', h, k => by
    by_cases hs : s.time ≤ tm
    · rw [show untilS tm (s :: l) = s :: untilS tm l from List.filter_cons_of_pos (by exact decide_eq_true hs)]
      refine ⟨fun h0 => ?_, h.2.until tm fun p hp _ => hp⟩
      obtain ⟨p, hp, h1, h2, h3⟩ := h.1 h0
      exact ⟨p, k p hp (by omega), h1, h2, h3⟩
    · rw [show untilS tm (s :: l) = untilS tm l from List.filter_cons_of_neg (by rw [decide_eq_false hs]; decide)]
      exact h.2.until tm fun p hp hpt => by injection hp with hp; rw [← hp] at hpt; exact absurd hpt hs
theorem Linked.at : ∀ {l : List Stm} {o : Option Stm}, Linked o l → ∀ i, i < l.length → 0 < (l.getD i noStm).number →
    (i = 0 ∧ ∃ p, o = some p ∧ p.author = (l.getD i noStm).author ∧ p.number = (l.getD i noStm).number - 1) ∨ (0 < i ∧ (l.getD (i - 1) noStm).author = (l.getD i noStm).author ∧ (l.getD (i - 1) noStm).number = (l.getD i noStm).number - 1)
  | [], _, _, i, hi, _ => absurd hi (Nat.not_lt_zero _)
  | s :: l, o, h, i, hi, h0 => by
    cases i with
    | zero =>
      obtain ⟨p, hp, h1, h2, _⟩ := h.1 h0
      exact .inl ⟨rfl, p, hp, h1, h2⟩
    | succ i =>
      have h3 := Linked.at h.2 i (Nat.lt_of_succ_lt_succ hi) h0
      rcases h3 with ⟨rfl, p, hp, h1, h2⟩ | ⟨hi0, h1, h2⟩
      · injection hp with hp
        subst hp
        exact .inr ⟨Nat.succ_pos _, h1, h2⟩
      · obtain ⟨k, rfl⟩ : ∃ k, i = k + 1 := ⟨i - 1, by omega⟩
        exact .inr ⟨Nat.succ_pos _, h1, h2⟩
theorem linked_of : ∀ (l : List Stm) (o : Option Stm), (∀ i, i < l.length → 0 < (l.getD i noStm).number →
    (i = 0 ∧ ∃ p, o = some p ∧ p.author = (l.getD i noStm).author ∧ p.number = (l.getD i noStm).number - 1 ∧ p.time ≤ (l.getD i noStm).time) ∨ (0 < i ∧ (l.getD (i - 1) noStm).author = (l.getD i noStm).author ∧ (l.getD (i - 1) noStm).number = (l.getD i noStm).number - 1 ∧ (l.getD (i - 1) noStm).time ≤ (l.getD i noStm).time)) → Linked o l
  | [], _, _ => trivial
  | s :: l, o, h => by
    refine ⟨fun h0 => ?_, linked_of l (some s) fun i hi h0 => ?_⟩
    · rcases h 0 (Nat.succ_pos _) h0 with ⟨_, h1⟩ | ⟨h1, _⟩
      · exact h1
      · exact absurd h1 (Nat.lt_irrefl _)
    · rcases h (i + 1) (Nat.succ_lt_succ hi) h0 with ⟨h1, _⟩ | ⟨_, h1, h2, h3⟩
      · exact absurd h1 (Nat.succ_ne_zero _)
      · rw [Nat.add_sub_cancel] at h1 h2 h3
        cases i with
        | zero => exact .inl ⟨rfl, s, rfl, h1, h2, h3⟩
        | succ i => exact .inr ⟨Nat.succ_pos _, h1, h2, h3⟩
theorem getD_take7 (l : List Stm) {n i : Nat} (h : i < n) : (l.take n).getD i noStm = l.getD i noStm := by
  rw [List.getD_eq_getElem?_getD, List.getElem?_take_of_lt h, ← List.getD_eq_getElem?_getD]
theorem counted_linked (au : Int) (l : List Stm) : Linked none (countedR au l) := by
  refine linked_of _ _ fun i hi h0 => .inr ?_
  unfold countedR at hi h0 ⊢
  have hi2 : i < countsFrom (ownL au l) (ownL au l).length 0 := by rw [List.length_take] at hi; omega
  rw [getD_take7 _ hi2] at h0 ⊢
  have h1 := countsFrom_all (ownL au l) (ownL au l).length 0 i (Nat.zero_le _) hi2
  unfold stepR at h1
  rw [Bool.and_eq_true, Bool.and_eq_true, Bool.or_eq_true, decide_eq_true_eq, decide_eq_true_eq, Bool.and_eq_true] at h1
  obtain ⟨h2, _, h3⟩ := h1
  have hi0 : 0 < i := by omega
  rcases h3 with h3 | ⟨h3, _⟩
  · omega
  · rw [getD_take7 _ (by omega : i - 1 < _)]
    unfold followsR at h3
    simp only [Bool.and_eq_true, decide_eq_true_eq] at h3
    exact ⟨hi0, h3.1.symm, by omega, h3.2.2.2⟩
theorem countedUp_linked (l : List Stm) : ∀ j, Linked none (countedUp l j)
  | 0 => trivial
  | j + 1 => by rw [countedUp_succ]; exact (countedUp_linked l j).app (counted_linked _ _)
theorem countedAll_linked (l : List Stm) : Linked none (countedAll l) := countedUp_linked l 64
theorem check_bounds {s : Stm} (h : checkV s = 0) : 0 ≤ s.time ∧ s.time ≤ 2147483648 ∧ 0 ≤ s.number ∧ s.number ≤ 199 := by
  unfold checkV at h
  split at h
  · exact absurd h (by decide)
  · split at h
    · exact absurd h (by decide)
    · split at h
      · exact absurd h (by decide)
      · rename_i ht
        split at h
        · exact absurd h (by decide)
        · rename_i hr
          have ht2 : btw s.time 0 2147483648 = true := by simpa using ht
          have hr2 : rangeB s = true := by simpa using hr
          unfold rangeB at hr2
          simp only [Bool.and_eq_true] at hr2
          have hr3 := hr2.1.1.1.1.1
          unfold btw at ht2 hr3
          rw [Bool.and_eq_true, decide_eq_true_eq, decide_eq_true_eq] at ht2 hr3
          exact ⟨ht2.1, ht2.2, hr3.1, hr3.2⟩
theorem counted_check {l : List Stm} {s : Stm} (h : s ∈ countedAll l) : checkV s = 0 := by
  obtain ⟨k, _, hk⟩ := List.mem_flatMap.1 h
  exact (ownL_mem (List.mem_of_mem_take hk)).2.2.1
/-- Until a time, and from then on: that is all. -/
theorem until_window (a : Int) : ∀ l : List Stm, (∀ s ∈ l, s.time ≤ 2147483648) → (untilS a l).length + (windowS (a + 1) 2147483648 l).length = l.length
  | [], _ => rfl
  | s :: l, h => by
    have ih := until_window a l fun x hx => h x (List.mem_cons.2 (.inr hx))
    have h1 := h s (List.mem_cons.2 (.inl rfl))
    unfold untilS windowS at *
    by_cases hs : s.time ≤ a
    · rw [List.filter_cons_of_pos (by exact decide_eq_true hs), List.filter_cons_of_neg (by rw [show decide (a + 1 ≤ s.time) = false from decide_eq_false (by omega), Bool.false_and]; decide), List.length_cons, List.length_cons]
      omega
    · rw [List.filter_cons_of_neg (by rw [decide_eq_false hs]; decide), List.filter_cons_of_pos (by rw [show decide (a + 1 ≤ s.time) = true from decide_eq_true (by omega), show decide (s.time ≤ 2147483648) = true from decide_eq_true h1]; rfl), List.length_cons, List.length_cons]
      omega
theorem until_mono {a b : Int} (hab : a ≤ b) : ∀ l : List Stm, (untilS a l).length ≤ (untilS b l).length
  | [] => Nat.le_refl _
  | s :: l => by
    have ih := until_mono hab l
    unfold untilS at *
    by_cases hs : s.time ≤ a
    · rw [List.filter_cons_of_pos (by exact decide_eq_true hs), List.filter_cons_of_pos (by exact decide_eq_true (by omega)), List.length_cons, List.length_cons]
      omega
    · rw [List.filter_cons_of_neg (by rw [decide_eq_false hs]; decide)]
      by_cases hb : s.time ≤ b
      · rw [List.filter_cons_of_pos (by exact decide_eq_true hb), List.length_cons]
        omega
      · rw [List.filter_cons_of_neg (by rw [decide_eq_false hb]; decide)]
        exact ih
/-- How many lie in the windows of the first epochs. -/
def eachUp (l : List Stm) (n : Int) : Nat → Nat
  | 0 => 0
  | e + 1 => eachUp l n e + (windowS ((e : Int) * n) ((e : Int) * n + n - 1) l).length
def belowS (c : Int) (l : List Stm) : List Stm := l.filter fun s => decide (s.time < c)
theorem below_window (c n : Int) (hn : 1 ≤ n) : ∀ l : List Stm, (belowS c l).length + (windowS c (c + n - 1) l).length = (belowS (c + n) l).length
  | [] => rfl
  | s :: l => by
    have ih := below_window c n hn l
    unfold belowS windowS at *
    by_cases h1 : s.time < c
    · rw [List.filter_cons_of_pos (by exact decide_eq_true h1), List.filter_cons_of_neg (by rw [show decide (c ≤ s.time) = false from decide_eq_false (by omega), Bool.false_and]; decide), List.filter_cons_of_pos (by exact decide_eq_true (by omega)), List.length_cons, List.length_cons]
      omega
    · rw [List.filter_cons_of_neg (by rw [decide_eq_false h1]; decide)]
      by_cases h2 : s.time < c + n
      · rw [List.filter_cons_of_pos (by rw [show decide (c ≤ s.time) = true from decide_eq_true (by omega), show decide (s.time ≤ c + n - 1) = true from decide_eq_true (by omega)]; rfl), List.filter_cons_of_pos (by exact decide_eq_true h2), List.length_cons, List.length_cons]
        omega
      · rw [List.filter_cons_of_neg (by rw [show decide (s.time ≤ c + n - 1) = false from decide_eq_false (by omega), Bool.and_false]; decide), List.filter_cons_of_neg (by rw [decide_eq_false h2]; decide)]
        exact ih
theorem eachUp_eq (l : List Stm) (n : Int) (hn : 1 ≤ n) (h : ∀ s ∈ l, 0 ≤ s.time) : ∀ k : Nat, eachUp l n k = (belowS ((k : Int) * n) l).length
  | 0 => by
    have : belowS (((0 : Nat) : Int) * n) l = [] := by
      unfold belowS
      rw [List.filter_eq_nil_iff]
      intro s hs
      rw [decide_eq_true_eq]
      have := h s hs
      omega
    rw [this]
    rfl
  | k + 1 => by
    have h1 := below_window ((k : Int) * n) n hn l
    have h2 : ((k + 1 : Nat) : Int) * n = (k : Int) * n + n := by rw [Int.natCast_add, Int.add_mul]; simp
    unfold eachUp
    rw [eachUp_eq l n hn h k, h2, h1]
theorem below_all {c : Int} {l : List Stm} (h : ∀ s ∈ l, s.time < c) : belowS c l = l := by
  unfold belowS
  rw [List.filter_eq_self]
  intro s hs
  exact decide_eq_true (h s hs)
end Go.Proofs.Ytdeojmgcofakeaa
