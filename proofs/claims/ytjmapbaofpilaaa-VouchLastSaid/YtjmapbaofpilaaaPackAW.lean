import Derived.Test.YtjmapbaofpilaaaPackAV
import Derived.Lib.SlicesCompact
import Derived.Shelf.Sort.Plain
import Derived.Shelf.Slices.In.SortNone
import Derived.Shelf.SlicesE.Compact
/- The walk of vouch's Of. -/
namespace Go.Proofs.Ytjmapbaofpilaaa
open Go.RowKit Go Go.ChangeMaps
def rawV (L m : List Stm) : List Vou := (m.filter fun s => decide (s.kind = 1)).map (vouOf L)
theorem rawV_snoc (L m : List Stm) (s : Stm) : rawV L (m ++ [s]) = rawV L m ++ (if s.kind = 1 then [vouOf L s] else []) := by
  unfold rawV
  rw [List.filter_append, List.map_append]
  congr 1
  by_cases h : s.kind = 1
  · rw [if_pos h, List.filter_cons_of_pos (by simpa using h)]; rfl
  · rw [if_neg h, List.filter_cons_of_neg (by simpa using h)]; rfl
theorem rawV_len (L m : List Stm) : (rawV L m).length ≤ m.length := by unfold rawV; rw [List.length_map]; exact List.length_filter_le _ _
theorem rev_cell {w : World} {g : Nat} {p : Vou} (h : w.heap[g]? = some (.cells p.arr 49 (0, 0))) (v : Int) : (w.setCell ⟨g, 6, none⟩ (.int .i64 v)).heap[g]? = some (.cells (Vou.arr { p with rv := v }) 49 (0, 0)) := heap_setCell_same w g 6 _ _ _ h
set_option maxRecDepth 100000 in
set_option maxHeartbeats 4000000 in
theorem vOf_any (A : Option Addr) (n c : Nat) (l : List Pl) (w : World) (hl : LRow w A n c l) (hn : n ≤ 100000) (ho : Ord10 (l.map (·.s))) : Calls Try.prog 21 #[.slice A n c] w (GivesV w (vouchesS (l.map (·.s)))) := by
  have HL := Lib.hid hl; have HLN := Lib.hid hl.len; have HO := Lib.hid ho
  have HRV := Lib.hid (revs_any A n c l w hl hn)
  have HLR : Hid (∀ s, (lookP (revP (l.map (·.s))) (s.author, s.number)).getD (-1) = revokedS (l.map (·.s)) s) := Lib.hid fun s => look_rev _ s
  clear hl ho
  go_enter Try.func21, Try.ntmps21
  go_wp2_with fail
  refine HRV.out.mono ?_
  rintro e w1 ⟨bm, rfl, hm, hb⟩
  have HM := Lib.hid hm; have HW := Lib.hid hb; have HBM : Hid (bm < w1.heap.size) := Lib.hid hm.lt
  clear hm hb HRV
  replace HL := Lib.hid (HL.out.later HW.out)
  go_wp2_with fail
  go_loopw [4, 14] (fun v i wr => ∃ j : Nat, j ≤ n ∧ i = .int .i64 j ∧ Hid (wr.ownsRow w1.heap.size 49 7 v (rawV (l.map (·.s)) ((l.take j).map (·.s))).length (rowC Vou.cells (rawV (l.map (·.s)) ((l.take j).map (·.s)))) ∧ Below w1.heap.size w1 wr)) (fun _ i _ => n - (intOf i).toNat)
  case atStart => exact ⟨0, Nat.zero_le _, rfl, Lib.hid ⟨World.ownsRow_nil _ _ _ _, Below.refl _ _⟩⟩
  case round =>
    obtain ⟨j, hj, rfl, HQ⟩ := hrel
    obtain ⟨A1, c1, hv, -⟩ := Row.of_own HQ.out.1
    subst hv
    by_cases hlt : j < n
    · have hlt2 : (j : Int) < (n : Int) := by omega
      obtain ⟨b, off, hA, hc⟩ := (HL.out.later HQ.out.2).cells j hlt
      subst hA
      have HC := Lib.hid hc
      have HST : Hid (rawV (l.map (·.s)) ((l.take (j + 1)).map (·.s)) = rawV (l.map (·.s)) ((l.take j).map (·.s)) ++ (if (l.getD j noPl).s.kind = 1 then [vouOf (l.map (·.s)) (l.getD j noPl).s] else [])) := Lib.hid (by rw [take_snocP l j (by rw [HLN.out]; exact hlt), List.map_append]; exact rawV_snoc _ _ _)
      have HUL : Hid ((rawV (l.map (·.s)) ((l.take j).map (·.s))).length ≤ 100000) := Lib.hid (Nat.le_trans (rawV_len _ _) (by rw [List.length_map, List.length_take]; omega))
      have HLK := Lib.hid (HLR.out (l.getD j noPl).s)
      have HVO : Hid (vouOf (l.map (·.s)) (l.getD j noPl).s = ⟨(l.getD j noPl).s.author, (l.getD j noPl).s.a, (l.getD j noPl).s.b, (l.getD j noPl).s.number, (l.getD j noPl).s.time, (l.getD j noPl).s.c, revokedS (l.map (·.s)) (l.getD j noPl).s⟩) := Lib.hid rfl
      clear hc
      generalize l.getD j noPl = q at *
      generalize rawV (l.map (·.s)) ((l.take j).map (·.s)) = U at *
      generalize vouOf (l.map (·.s)) q.s = V at *
      generalize revokedS (l.map (·.s)) q.s = RV at *
      generalize revP (l.map (·.s)) = RP at *
      go_upto_region 6 with (first | (refine wpList_load_cells rfl 34 (.tmp 16) rfl b (off + j * 13) rfl q.arr _ Try.underlying34 rfl q.info HC.out ?_) | (refine wpList_store_new rfl 34 (.tmp 6) (.tmp 17) rfl 34 _ q.arr rfl rfl q.info rfl q.one ?_))
      have HN2 := Lib.hid (one_new wr (.cells q.arr 34))
      have HX : Hid ((wr.alloc (.cells q.arr 34)).heap[wr.heap.size]? = some (.cells q.arr 34 (0, 0))) := Lib.hid (heap_alloc_new _ _)
      have HW1 : Hid (w1.heap.size ≤ wr.heap.size) := Lib.hid HQ.out.2.size
      have HB := Lib.hid (HQ.out.2.trans (HN2.out.mono HQ.out.2.size))
      have HU := Lib.hid (own_later HQ.out.1 HN2.out)
      clear HQ HN2 HC
      generalize wr.alloc (.cells q.arr 34) = x2 at *
      generalize wr.heap.size = g at *
      have hq4 : x2.cell? ⟨g, 4, none⟩ = some (.int .i64 q.s.kind) := (cell_of_row _ _ 4 _ _ _ HX.out).trans rfl
      by_cases hk : q.s.kind = 1
      · have b0 : (q.s.kind != 1) = false := by rw [hk]; rfl
        have HST2 : Hid (rawV (l.map (·.s)) ((l.take (j + 1)).map (·.s)) = U ++ [V]) := Lib.hid (by rw [HST.out, if_pos hk])
        clear hk HST
        go_upto_region 7 with fail
        clear b0 hq4
        have hq0 : x2.cell? ⟨g, 0, none⟩ = some (.int .i64 q.s.author) := (cell_of_row _ _ 0 _ _ _ HX.out).trans rfl
        have hq1 : x2.cell? ⟨g, 1, none⟩ = some (.int .i64 q.s.number) := (cell_of_row _ _ 1 _ _ _ HX.out).trans rfl
        have hq3 : x2.cell? ⟨g, 3, none⟩ = some (.int .i64 q.s.time) := (cell_of_row _ _ 3 _ _ _ HX.out).trans rfl
        have hq5 : x2.cell? ⟨g, 5, none⟩ = some (.int .i64 q.s.a) := (cell_of_row _ _ 5 _ _ _ HX.out).trans rfl
        have hq6 : x2.cell? ⟨g, 6, none⟩ = some (.int .i64 q.s.b) := (cell_of_row _ _ 6 _ _ _ HX.out).trans rfl
        have hq7 : x2.cell? ⟨g, 7, none⟩ = some (.int .i64 q.s.c) := (cell_of_row _ _ 7 _ _ _ HX.out).trans rfl
        go_upto_region 8 with (refine wpList_store_new rfl 49 (.tmp 7) (.tmp 33) rfl 49 _ (Vou.arr ⟨q.s.author, q.s.a, q.s.b, q.s.number, q.s.time, q.s.c, -1⟩) rfl rfl (Vou.info _) rfl (Vou.one _) ?_)
        clear hq0 hq1 hq3 hq5 hq6 hq7
        generalize hV0 : (⟨q.s.author, q.s.a, q.s.b, q.s.number, q.s.time, q.s.c, -1⟩ : Vou) = V0 at *
        have HV0 := Lib.hid hV0
        clear hV0
        have HN3 := Lib.hid (one_new x2 (.cells V0.arr 49))
        have HY : Hid ((x2.alloc (.cells V0.arr 49)).heap[x2.heap.size]? = some (.cells V0.arr 49 (0, 0))) := Lib.hid (heap_alloc_new _ _)
        have HG3 : Hid (w1.heap.size ≤ x2.heap.size) := Lib.hid HB.out.size
        have HNE : Hid (∀ k, (Value.slice A1 U.length c1).ownBlock = some k → k < x2.heap.size) := Lib.hid fun k hk => own_lt HU.out k hk
        replace HB := Lib.hid (HB.out.trans (HN3.out.mono HB.out.size))
        replace HX := Lib.hid ((HN3.out.block _ (Array.getElem?_eq_some_iff.1 HX.out).1).trans HX.out)
        replace HU := Lib.hid (own_later HU.out HN3.out)
        clear HN3
        generalize x2.alloc (.cells V0.arr 49) = z2 at *
        generalize x2.heap.size = g3 at *
        have hq0 : z2.cell? ⟨g, 0, none⟩ = some (.int .i64 q.s.author) := (cell_of_row _ _ 0 _ _ _ HX.out).trans rfl
        have hq1 : z2.cell? ⟨g, 1, none⟩ = some (.int .i64 q.s.number) := (cell_of_row _ _ 1 _ _ _ HX.out).trans rfl
        have hlk := run_lookP (HM.out.later (HB.out.mono (Nat.le_refl _))) (q.s.author, q.s.number)
        unfold pkV at hlk
        simp only at hlk
        have hul := HUL.out
        cases hlook : lookP RP (q.s.author, q.s.number) with
        | none =>
          rw [hlook] at hlk
          simp only [Option.getD_none, Option.isSome_none] at hlk
          have HVV : Hid (V0 = V) := Lib.hid (by rw [HVO.out, ← HV0.out, ← HLK.out, hlook]; rfl)
          clear hlook HV0 HVO HLK
          rw [HVV.out] at HY
          have hsz := HB.out.size
          have hvs : V.arr.size = 7 := rfl
          go_wp2_with (first | (refine wpList_load_row rfl 49 (.tmp 7) rfl g3 rfl 49 V.arr (0, 0) _ HY.out Try.underlying49 rfl V.info ?_) | (at_builtin; (first | rw [fold7n] | rw [fold7]); go_must (refine wpList_app_newK _ rfl (.tmp 47) (.tmp 49) 45 49 rfl w1.heap.size Try.underlying45 vou_info rfl _ U.length (rowC Vou.cells U) HU.out rfl 1 V.arr rfl V.ones rfl rfl (by unfold maxLen; omega) (by omega) hsz ?_); intro x3 z3 ho hb hk1 hk2; have HO4 := Lib.hid ho; have HB4 := Lib.hid (HB.out.trans hb); clear ho hb hk1 hk2))
          exact ⟨⟨j + 1, by omega, by go_num, Lib.hid (by rw [HST2.out, List.length_append, rowC_app, rowC_single]; exact ⟨HO4.out, HB4.out⟩)⟩, by simp [intOf]; omega⟩
        | some v =>
          rw [hlook] at hlk
          simp only [Option.getD_some, Option.isSome_some] at hlk
          have HVV : Hid ({ V0 with rv := v } = V) := Lib.hid (by rw [HVO.out, ← HV0.out, ← HLK.out, hlook]; rfl)
          clear hlook HV0 HVO HLK
          have HY2 := Lib.hid (rev_cell HY.out v)
          rw [HVV.out] at HY2
          have hy6 : z2.cell? ⟨g3, 6, none⟩ = some (.int .i64 V0.rv) := (cell_of_row _ _ 6 _ _ _ HY.out).trans rfl
          have hfz : z2.frozen? ⟨g3, 6, none⟩ = false := by unfold World.frozen?; rw [HY.out]; simp
          have HB2 := Lib.hid (HB.out.setCell (p := ⟨g3, 6, none⟩) HG3.out (.int .i64 v))
          have HU2 := Lib.hid (own_keepL HU.out fun k hk => Below.heap_setCell z2 ⟨g3, 6, none⟩ (.int .i64 v) k (Nat.ne_of_lt (HNE.out k hk)))
          clear HY
          go_upto_region 11 with fail
          clear hlk hq0 hq1 hy6 hfz HB HU HX
          generalize z2.setCell ⟨g3, 6, none⟩ (.int .i64 v) = z4 at *
          have hsz : w1.heap.size ≤ z4.heap.size := HB2.out.size
          have hvs : V.arr.size = 7 := rfl
          go_wp2_with (first | (refine wpList_load_row rfl 49 (.tmp 7) rfl g3 rfl 49 V.arr (0, 0) _ HY2.out Try.underlying49 rfl V.info ?_) | (at_builtin; (first | rw [fold7n] | rw [fold7]); go_must (refine wpList_app_newK _ rfl (.tmp 47) (.tmp 49) 45 49 rfl w1.heap.size Try.underlying45 vou_info rfl _ U.length (rowC Vou.cells U) HU2.out rfl 1 V.arr rfl V.ones rfl rfl (by unfold maxLen; omega) (by omega) hsz ?_); intro x3 z3 ho hb hk1 hk2; have HO4 := Lib.hid ho; have HB4 := Lib.hid (HB2.out.trans hb); clear ho hb hk1 hk2))
          exact ⟨⟨j + 1, by omega, by go_num, Lib.hid (by rw [HST2.out, List.length_append, rowC_app, rowC_single]; exact ⟨HO4.out, HB4.out⟩)⟩, by simp [intOf]; omega⟩
      · have b0 : (q.s.kind != 1) = true := by rw [bne_iff_ne]; exact hk
        have HE : Hid (rawV (l.map (·.s)) ((l.take (j + 1)).map (·.s)) = U) := Lib.hid (by rw [HST.out, if_neg hk, List.append_nil])
        clear hk
        go_wp2_with fail
        exact ⟨⟨j + 1, by omega, by go_num, Lib.hid (by rw [HE.out]; exact ⟨HU.out, HB.out⟩)⟩, by simp [intOf]; omega⟩
    · have hlt2 : ¬ (j : Int) < (n : Int) := by omega
      have hj2 : j = n := by omega
      have HE : Hid ((l.take j).map (·.s) = l.map (·.s)) := Lib.hid (by rw [List.take_of_length_le (by rw [HLN.out]; omega)])
      have HO2 := Lib.hid HQ.out.1; have HB := Lib.hid HQ.out.2
      rw [HE.out] at HO2
      have HUL : Hid ((rawV (l.map (·.s)) (l.map (·.s))).length ≤ 100000) := Lib.hid (Nat.le_trans (rawV_len _ _) (by rw [List.length_map, HLN.out]; exact hn))
      have HSO := Lib.hid (sortV_all w1.heap.size _ _ _ wr HO2.out (Nat.le_trans HUL.out (by decide)) HB.out.size)
      have HEQ : Hid (∀ l' : List Vou, l'.Perm (rawV (l.map (·.s)) (l.map (·.s))) → SortedV l' → l' = vouchesS (l.map (·.s))) := Lib.hid fun l' hp hs => vouches_same HO.out hp hs
      rw [HE.out]
      clear HQ HE
      generalize rawV (l.map (·.s)) (l.map (·.s)) = U at *
      go_wp2_with fail
      refine HSO.out.mono ?_
      rintro e w5 ⟨rfl, A5, c5, l5, hv5, hp5, hs5, hr5, hb5⟩
      injection hv5 with hA5 _ hc5
      subst hA5 hc5
      have HR5 := Lib.hid hr5
      have HS5 := Lib.hid (HEQ.out l5 hp5 hs5)
      have HB5 := Lib.hid (HW.out.trans ((HB.out.trans hb5).mono HW.out.size))
      clear hr5 hp5 hs5 hb5 HSO
      go_wp2_with fail
      go_ret
      refine ⟨_, _, _, rfl, ?_, HB5.out⟩
      rw [← HS5.out]
      exact HR5.out
end Go.Proofs.Ytjmapbaofpilaaa
/- Who has resigned, once each, ascending: what sorting and leaving repeats out comes to. Plain facts. -/
namespace Go.Proofs.Ytjmapbaofpilaaa
open Go.RowKit Go.Lib
theorem compact_mem (d : Array Int) (x : Int) : ∀ m, x ∈ compactUpTo d m ↔ ∃ j, j < m ∧ d[j]! = x
  | 0 => by simp [compactUpTo]
  | m + 1 => by
    rw [compactUpTo_succ, List.mem_append, compact_mem d x m]
    by_cases hk : keeps d m = true
    · rw [if_pos hk]
      constructor
      · rintro (⟨j, hj, he⟩ | h)
        · exact ⟨j, by omega, he⟩
        · exact ⟨m, by omega, (List.mem_singleton.1 h).symm⟩
      · rintro ⟨j, hj, he⟩
        by_cases h : j = m
        · subst h; exact .inr (by rw [he]; simp)
        · exact .inl ⟨j, by omega, he⟩
    · rw [if_neg hk]
      constructor
      · rintro (⟨j, hj, he⟩ | h)
        · exact ⟨j, by omega, he⟩
        · cases h
      · rintro ⟨j, hj, he⟩
        by_cases h : j = m
        · subst h
          unfold keeps at hk
          rw [decide_eq_true_eq, not_or] at hk
          exact .inl ⟨j - 1, by omega, by rw [← he]; have := hk.2; by_cases q : d[j]! = d[j - 1]!; exact q.symm; exact absurd q this⟩
        · exact .inl ⟨j, by omega, he⟩
theorem compact_asc (d : Array Int) (hd : ∀ i j, i < j → j < d.size → d[i]! ≤ d[j]!) : ∀ m, m ≤ d.size → (compactUpTo d m).Pairwise (· < ·)
  | 0, _ => by simp [compactUpTo]
  | m + 1, hm => by
    rw [compactUpTo_succ]
    have ih := compact_asc d hd m (by omega)
    by_cases hk : keeps d m = true
    · rw [if_pos hk]
      refine List.pairwise_append.2 ⟨ih, List.pairwise_singleton _ _, fun a ha b hb => ?_⟩
      rw [List.mem_singleton.1 hb]
      obtain ⟨j, hj, rfl⟩ := (compact_mem d a m).1 ha
      unfold keeps at hk
      rw [decide_eq_true_eq] at hk
      have hne : d[m]! ≠ d[m - 1]! := by rcases hk with h | h; omega; exact h
      have h1 : d[m - 1]! ≤ d[m]! := hd _ _ (by omega) (by omega)
      have h2 : d[j]! ≤ d[m - 1]! := by
        by_cases h : j = m - 1
        · rw [h]; exact Int.le_refl _
        · exact hd _ _ (by omega) (by omega)
      omega
    · rw [if_neg hk, List.append_nil]
      exact ih
theorem compact_len (d : Array Int) : ∀ m, (compactUpTo d m).length ≤ m
  | 0 => by simp [compactUpTo]
  | m + 1 => by
    rw [compactUpTo_succ, List.length_append]
    have := compact_len d m
    split
    · simp; omega
    · simp; omega
/-- The authors of the resignations by a time. -/
def goneRaw (L : List Stm) (tm : Int) : List Int := ((untilS tm L).filter fun s => decide (s.kind = 3)).map (·.author)
theorem goneRaw_mem (L : List Stm) (tm x : Int) : x ∈ goneRaw L tm ↔ isGoneB L tm x = true := by
  unfold goneRaw isGoneB
  rw [List.any_eq_true, List.mem_map]
  constructor
  · rintro ⟨s, hs, rfl⟩
    obtain ⟨h1, h2⟩ := List.mem_filter.1 hs
    obtain ⟨h3, h4⟩ := (until_iff tm L s).1 h1
    refine ⟨s, h3, ?_⟩
    unfold leftB
    rw [decide_eq_true rfl, h2, decide_eq_true h4]; rfl
  · rintro ⟨s, hs, hb⟩
    unfold leftB at hb
    rw [Bool.and_eq_true, Bool.and_eq_true, decide_eq_true_eq, decide_eq_true_eq, decide_eq_true_eq] at hb
    exact ⟨s, List.mem_filter.2 ⟨(until_iff tm L s).2 ⟨hs, hb.2⟩, decide_eq_true hb.1.2⟩, hb.1.1⟩
theorem goneUp_mem (L : List Stm) (tm x : Int) : ∀ j : Nat, x ∈ goneUp L tm j ↔ 0 ≤ x ∧ x < (j : Int) ∧ isGoneB L tm x = true
  | 0 => by
    constructor
    · intro h; cases h
    · rintro ⟨h1, h2, _⟩; omega
  | j + 1 => by
    show x ∈ goneUp L tm j ++ (if isGoneB L tm (j : Int) then [(j : Int)] else []) ↔ _
    rw [List.mem_append, goneUp_mem L tm x j]
    constructor
    · rintro (⟨h1, h2, h3⟩ | h)
      · exact ⟨h1, by omega, h3⟩
      · split at h
        · rename_i hg
          have := List.mem_singleton.1 h
          subst this
          exact ⟨by omega, by omega, hg⟩
        · cases h
    · rintro ⟨h1, h2, h3⟩
      by_cases h : x = (j : Int)
      · subst h; exact .inr (by rw [if_pos h3]; simp)
      · exact .inl ⟨h1, by omega, h3⟩
theorem goneUp_asc (L : List Stm) (tm : Int) : ∀ j : Nat, (goneUp L tm j).Pairwise (· < ·)
  | 0 => List.Pairwise.nil
  | j + 1 => by
    show (goneUp L tm j ++ (if isGoneB L tm (j : Int) then [(j : Int)] else [])).Pairwise (· < ·)
    split
    · refine List.pairwise_append.2 ⟨goneUp_asc L tm j, List.pairwise_singleton _ _, fun a ha b hb => ?_⟩
      rw [List.mem_singleton.1 hb]
      exact ((goneUp_mem L tm a j).1 ha).2.1
    · rw [List.append_nil]; exact goneUp_asc L tm j
theorem check_author {s : Stm} (h : checkV s = 0) : 0 ≤ s.author ∧ s.author < 64 := by
  unfold checkV at h
  split at h
  · exact absurd h (by decide)
  · rename_i ha
    have ha2 : isKeyB s.author = true := by simpa using ha
    unfold isKeyB at ha2
    simp only [btw, Bool.and_eq_true, decide_eq_true_eq] at ha2
    omega
theorem sorted_bang (zs : List Int) (i j : Nat) (hij : i < j) (hj : j < (zs.mergeSort fun x y => decide (x ≤ y)).toArray.size) : (zs.mergeSort fun x y => decide (x ≤ y)).toArray[i]! ≤ (zs.mergeSort fun x y => decide (x ≤ y)).toArray[j]! := by
  have hp : (zs.mergeSort fun x y => decide (x ≤ y)).Pairwise fun a b => decide (a ≤ b) = true := List.pairwise_mergeSort (fun a b c h k => by rw [decide_eq_true_eq] at *; omega) (fun a b => by rw [Bool.or_eq_true, decide_eq_true_eq, decide_eq_true_eq]; omega) zs
  generalize zs.mergeSort (fun x y => decide (x ≤ y)) = m at *
  have hj' : j < m.length := by simpa using hj
  rw [getElem!_pos _ i (by simp; omega), getElem!_pos _ j (by simpa using hj)]
  have := List.pairwise_iff_getElem.1 hp i j (by omega) hj' hij
  simpa using this
theorem gone_same {L : List Stm} (h : ∀ s ∈ L, checkV s = 0) (tm : Int) : compactUpTo ((goneRaw L tm).mergeSort fun x y => decide (x ≤ y)).toArray (goneRaw L tm).length = goneS L tm := by
  have hlen : ((goneRaw L tm).mergeSort fun x y => decide (x ≤ y)).toArray.size = (goneRaw L tm).length := by simp [List.length_mergeSort]
  refine sorted_ext (r := (· < ·)) (fun a b h k => by omega) (compact_asc _ (sorted_bang _) _ (by rw [hlen]; exact Nat.le_refl _)) (goneUp_asc L tm 64) fun x => ?_
  rw [compact_mem, show (x ∈ goneS L tm) = (x ∈ goneUp L tm 64) from rfl, goneUp_mem]
  have h1 : (∃ j, j < (goneRaw L tm).length ∧ ((goneRaw L tm).mergeSort fun x y => decide (x ≤ y)).toArray[j]! = x) ↔ x ∈ goneRaw L tm := by
    rw [← List.mem_mergeSort (le := fun x y => decide (x ≤ y)), List.mem_iff_getElem]
    constructor
    · rintro ⟨j, hj, he⟩
      refine ⟨j, by rw [List.length_mergeSort]; exact hj, ?_⟩
      rw [getElem!_pos _ j (by rw [hlen]; exact hj)] at he
      simpa using he
    · rintro ⟨j, hj, he⟩
      rw [List.length_mergeSort] at hj
      refine ⟨j, hj, ?_⟩
      rw [getElem!_pos _ j (by rw [hlen]; exact hj)]
      simpa using he
  rw [h1, goneRaw_mem]
  constructor
  · intro hg
    unfold isGoneB at hg
    obtain ⟨s, hs, hb⟩ := List.any_eq_true.1 hg
    have ha := check_author (h s hs)
    have : s.author = x := by
      unfold leftB at hb
      rw [Bool.and_eq_true, Bool.and_eq_true, decide_eq_true_eq] at hb
      exact hb.1.1
    exact ⟨by omega, by omega, hg⟩
  · exact fun h => h.2.2
end Go.Proofs.Ytjmapbaofpilaaa
/- slices.Sort and slices.Compact over numbers: the shelf's contracts at this program. -/
namespace Go.Proofs.Ytjmapbaofpilaaa
open Go.RowKit Go.Shelf Go.Sort Go.Lib
def sortInt_ren : Go.Shelf.Ren := ⟨fun | 125 => 64 | 128 => 88 | 129 => 89 | 189 => 40 | 215 => 98 | 216 => 85 | 257 => 63 | 294 => 79 | 295 => 80 | 296 => 81 | 297 => 82 | 298 => 83 | 299 => 84 | 300 => 86 | 301 => 87 | 328 => 102 | 329 => 103 | 330 => 104 | 331 => 105 | 332 => 106 | 343 => 110 | n => n, fun | 0 => 0 | 3 => 3 | 4 => 4 | 5 => 5 | 9 => 9 | 28 => 22 | 46 => 93 | 51 => 96 | 53 => 98 | 131 => 73 | 182 => 111 | 183 => 112 | 218 => 126 | 222 => 130 | 228 => 134 | 229 => 135 | n => n, fun | n => n⟩
theorem sortInt : Lays.n189 Try.prog sortInt_ren := {
  mixed := by kernel_rfl
  f125 := Try.func64.trans (congrArg some (by kernel_rfl))
  f128 := Try.func88.trans (congrArg some (by kernel_rfl))
  f129 := Try.func89.trans (congrArg some (by kernel_rfl))
  f189 := Try.func40.trans (congrArg some (by kernel_rfl))
  f215 := Try.func98.trans (congrArg some (by kernel_rfl))
  f216 := Try.func85.trans (congrArg some (by kernel_rfl))
  f257 := Try.func63.trans (congrArg some (by kernel_rfl))
  f294 := Try.func79.trans (congrArg some (by kernel_rfl))
  f295 := Try.func80.trans (congrArg some (by kernel_rfl))
  f296 := Try.func81.trans (congrArg some (by kernel_rfl))
  f297 := Try.func82.trans (congrArg some (by kernel_rfl))
  f298 := Try.func83.trans (congrArg some (by kernel_rfl))
  f299 := Try.func84.trans (congrArg some (by kernel_rfl))
  f300 := Try.func86.trans (congrArg some (by kernel_rfl))
  f301 := Try.func87.trans (congrArg some (by kernel_rfl))
  f328 := Try.func102.trans (congrArg some (by kernel_rfl))
  f329 := Try.func103.trans (congrArg some (by kernel_rfl))
  f330 := Try.func104.trans (congrArg some (by kernel_rfl))
  f331 := Try.func105.trans (congrArg some (by kernel_rfl))
  f332 := Try.func106.trans (congrArg some (by kernel_rfl))
  f343 := Try.func110.trans (congrArg some (by kernel_rfl))
  t0 := Try.underlying0
  a0 := Try.isAgg0
  z0 := Try.sizeOf0
  v0 := Try.zeroValue0
  t3 := Try.underlying3
  a3 := Try.isAgg3
  z3 := Try.sizeOf3
  v3 := Try.zeroValue3
  t4 := Try.underlying4
  a4 := Try.isAgg4
  z4 := Try.sizeOf4
  v4 := Try.zeroValue4
  t5 := Try.underlying5
  a5 := Try.isAgg5
  z5 := Try.sizeOf5
  v5 := Try.zeroValue5
  t9 := Try.underlying9
  a9 := Try.isAgg9
  z9 := Try.sizeOf9
  v9 := Try.zeroValue9
  t28 := Try.underlying22
  a28 := Try.isAgg22
  z28 := Try.sizeOf22
  v28 := Try.zeroValue22
  t46 := Try.underlying93
  a46 := Try.isAgg93
  z46 := Try.sizeOf93
  v46 := Try.zeroValue93
  t51 := Try.underlying96
  a51 := Try.isAgg96
  z51 := Try.sizeOf96
  v51 := Try.zeroValue96
  t53 := Try.underlying98
  a53 := Try.isAgg98
  z53 := Try.sizeOf98
  v53 := Try.zeroValue98
  t131 := Try.underlying73
  a131 := Try.isAgg73
  z131 := Try.sizeOf73
  v131 := Try.zeroValue73
  t182 := Try.underlying111
  a182 := Try.isAgg111
  z182 := Try.sizeOf111
  v182 := Try.zeroValue111
  t183 := Try.underlying112
  a183 := Try.isAgg112
  z183 := Try.sizeOf112
  v183 := Try.zeroValue112
  t218 := Try.underlying126
  a218 := Try.isAgg126
  z218 := Try.sizeOf126
  v218 := Try.zeroValue126
  t222 := Try.underlying130
  a222 := Try.isAgg130
  z222 := Try.sizeOf130
  v222 := Try.zeroValue130
  t228 := Try.underlying134
  a228 := Try.isAgg134
  z228 := Try.sizeOf134
  v228 := Try.zeroValue134
  t229 := Try.underlying135
  a229 := Try.isAgg135
  z229 := Try.sizeOf135
  v229 := Try.zeroValue135 }
def compactInt_ren : Go.Shelf.Ren := ⟨fun | 43 => 41 | n => n, fun | 0 => 0 | 3 => 3 | 4 => 4 | 22 => 22 | 23 => 3 | n => n, fun | n => n⟩
theorem compactInt : SlLaysE.n43 Try.prog compactInt_ren := {
  mixed := by kernel_rfl
  f43 := ⟨Try.f41.name, by decide, Try.func41.trans (congrArg some (by kernel_rfl))⟩
  t0 := Try.underlying0
  a0 := Try.isAgg0
  z0 := Try.sizeOf0
  v0 := Try.zeroValue0
  t3 := Try.underlying3
  a3 := Try.isAgg3
  z3 := Try.sizeOf3
  v3 := Try.zeroValue3
  t4 := Try.underlying4
  a4 := Try.isAgg4
  z4 := Try.sizeOf4
  v4 := Try.zeroValue4
  t22 := Try.underlying22
  a22 := Try.isAgg22
  z22 := Try.sizeOf22
  v22 := Try.zeroValue22
  a23 := Try.isAgg3
  z23 := Try.sizeOf3 }
theorem holds_own {w : World} {g n : Nat} {l : List Int} {cur : List Value} {t : TypeId} (hg : w.heap[g]? = some (.cells cur.toArray t (0, 0))) (hn : l.length = n) (htk : cur.take n = intsV l) : Holds (Value.int .i64) w g 0 l.toArray := by
  intro j hj
  have hj' : j < l.length := by simpa using hj
  rw [Nat.zero_add]
  refine ⟨?_, ?_⟩
  · rw [cell_of_row _ _ _ _ _ _ hg]
    have h1 : cur[j]? = (intsV l)[j]? := by rw [← htk, List.getElem?_take_of_lt (by omega)]
    rw [show cur.toArray[j]? = cur[j]? by simp, h1]
    simp [intsV, hj']
    rfl
  · unfold World.frozen?
    rw [hg]
    simp
theorem below_row (w : World) (m g : Nat) (d : Array Int) (os : Array Obj) {B : Nat} (hB : B ≤ g) (hb : B ≤ w.heap.size) : RowKit.Below B w (Sort.grow (putRow (Value.int .i64) (Sort.ahead w m) g 0 d) os) := by
  refine ⟨rfl, rfl, rfl, ?_, fun k hk => ?_⟩
  · unfold Sort.grow putRow mapBlock Sort.ahead
    simp
  · unfold Sort.grow putRow mapBlock Sort.ahead
    simp only
    rw [Array.getElem?_append_left (by simp; omega), Array.getElem?_modify, if_neg (by omega)]
set_option maxRecDepth 100000 in
theorem compactNone (p : Option Addr) (cap : Nat) (w : World) : Calls Try.prog 41 #[.slice p 0 cap] w fun e w' => e = .returned (.slice p 0 cap) ∧ w' = w := by
  go_enter Try.func41, Try.ntmps41
  go_wp2
  go_ret
  exact ⟨rfl, rfl⟩
/-- A list of one's own, sorted. -/
structure Laidint (w : World) (B g n cap : Nat) (l : List Int) : Prop where
  lo : B ≤ g
  lt : g < w.heap.size
  holds : Holds (Value.int .i64) w g 0 l.toArray
  len : l.length = n
  cap : n ≤ cap
theorem laid_of_own {w : World} {B : Nat} {v : Value} {n : Nat} {l : List Int} (ho : w.ownsRow B 3 1 v n (intsV l)) (h0 : 0 < n) : ∃ g cap, v = .slice (some ⟨g, 0, none⟩) n cap ∧ Laidint w B g n cap l := by
  obtain ⟨hlen, ⟨rfl, hz⟩ | ⟨g, cap, cur, rfl, hBg, hg, hnc, hcm, hcs, htk⟩⟩ := ho
  · omega
  · have hln : l.length = n := by simpa [intsV] using hlen
    exact ⟨g, cap, rfl, hBg, (Array.getElem?_eq_some_iff.1 hg).1, holds_own (cur := cur.toList) (by simpa using hg) hln (by simpa using htk), hln, hnc⟩
theorem sortI_any {w : World} {B g n cap : Nat} {l : List Int} (h : Laidint w B g n cap l) (hn : n ≤ 1000000) (hB : B ≤ w.heap.size) : Calls Try.prog 40 #[.slice (some ⟨g, 0, none⟩) n cap] w fun e w' => e = .returned (.tuple #[]) ∧ Laidint w' B g n cap (l.mergeSort fun x y => decide (x ≤ y)) ∧ RowKit.Below B w w' := by
  have hc := Any.slices_Sort_int sortInt g 0 cap l w h.holds h.lt (by rw [h.len]; omega)
  rw [h.len] at hc
  refine Calls.mono hc ?_
  rintro e w' ⟨rfl, m, os, rfl⟩
  refine ⟨rfl, ⟨h.lo, ?_, ?_, by rw [List.length_mergeSort]; exact h.len, h.cap⟩, below_row w m g _ os h.lo hB⟩
  · have := h.lt
    unfold Sort.grow putRow mapBlock Sort.ahead
    simp; omega
  · exact holds_grow _ _ _ _ _ _ (by unfold putRow mapBlock Sort.ahead; simpa using h.lt) (holds_putRow _ _ _ _ l.toArray _ (holds_ahead _ _ _ _ _ _ h.holds) (by simp [List.length_mergeSort]))
theorem compactI_any {w : World} {B g n cap : Nat} {l : List Int} (h : Laidint w B g n cap l) (hn : n ≤ 1000000) (hB : B ≤ w.heap.size) : Calls Try.prog 41 #[.slice (some ⟨g, 0, none⟩) n cap] w fun e w' => ∃ A m c, e = .returned (.slice A m c) ∧ IRow w' A m c (compactUpTo l.toArray n) ∧ RowKit.Below B w w' := by
  have hsz : l.toArray.size = n := by rw [List.size_toArray, h.len]
  have hc := AnyE.slices_Compact compactInt (Value.int .i64) (fun _ => rfl) (EqlAt.intD _ _ _) (NeqAt.intD _ _ _) 0 Try.zeroValue3 g 0 cap l.toArray w h.holds (by rw [hsz]; omega) (by rw [hsz]; exact h.cap)
  rw [hsz] at hc
  refine Calls.mono hc ?_
  rintro e w' ⟨rfl, q, rfl⟩
  have hl := compact_len l.toArray n
  have hH := holds_putRow (Value.int .i64) (Sort.ahead w q) g 0 l.toArray ((compactUpTo l.toArray n) ++ List.replicate (n - (compactUpTo l.toArray n).length) 0).toArray (holds_ahead _ _ _ _ _ _ h.holds) (by simp [h.len]; omega)
  refine ⟨_, _, _, rfl, ?_, by have := below_row w q g ((compactUpTo l.toArray n) ++ List.replicate (n - (compactUpTo l.toArray n).length) 0).toArray #[] h.lo hB; rwa [grow_empty] at this⟩
  refine ⟨by simp [intsV], by have := h.cap; omega, fun h => (by cases h), fun ad hA _ => ?_⟩
  injection hA with hA
  subst hA
  refine ⟨g, 0, rfl, fun t ht => ?_⟩
  have ht' : t < (compactUpTo l.toArray n).length := by simpa using ht
  rw [(hH t (by simp; omega)).1, getElem!_pos _ t (by simp; omega)]
  simp [intsV, ht']
  rfl
end Go.Proofs.Ytjmapbaofpilaaa
