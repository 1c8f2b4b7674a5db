import Derived.Shelf.SlSortCmp.WholeK
import Derived.Shelf.SlSortCmp.NoneTotal
import Derived.Test.YtnmpbjgccbnomaaGreatPackAW
import Derived.Test.YtnmpbjgccbnomaaGreatPackAZ
import Derived.Lib.SlicesCompact
import Derived.Shelf.Sort.Plain
import Derived.Shelf.Slices.In.SortNone
import Derived.Shelf.SlicesE.Compact
/- slices.SortFunc over vouches, with vouch's compare: the shelf's contract at this program. -/
namespace Go.Proofs.YtnmpbjgccbnomaaGreat
open Go.RowKit Go.Shelf Go.Sort
def sortVou_ren : Go.Shelf.Ren := ⟨fun | 6 => 80 | 15 => 78 | 14 => 108 | 28 => 106 | 29 => 107 | 20 => 120 | 21 => 121 | 22 => 122 | 23 => 123 | 24 => 124 | 25 => 125 | 26 => 126 | 27 => 127 | 46 => 130 | 47 => 116 | 48 => 117 | 49 => 131 | 50 => 132 | 57 => 133 | n => n, fun | 22 => 64 | 24 => 67 | 25 => 111 | 3 => 3 | 39 => 91 | 0 => 0 | 53 => 132 | 55 => 134 | 4 => 4 | 46 => 127 | 45 => 126 | 50 => 75 | 5 => 5 | 9 => 9 | 66 => 143 | 70 => 147 | 76 => 155 | 77 => 156 | n => n, fun | n => n⟩
theorem sortVou : SlLaysF0.n6 Tryz.prog sortVou_ren := {
  mixed := by kernel_rfl
  f6 := ⟨Tryz.f80.name, by decide, Tryz.func80.trans (congrArg some (by kernel_rfl))⟩
  f14 := ⟨Tryz.f108.name, by decide, Tryz.func108.trans (congrArg some (by kernel_rfl))⟩
  f15 := Tryz.func78.trans (congrArg some (by kernel_rfl))
  f20 := ⟨Tryz.f120.name, by decide, Tryz.func120.trans (congrArg some (by kernel_rfl))⟩
  f21 := ⟨Tryz.f121.name, by decide, Tryz.func121.trans (congrArg some (by kernel_rfl))⟩
  f22 := ⟨Tryz.f122.name, by decide, Tryz.func122.trans (congrArg some (by kernel_rfl))⟩
  f23 := ⟨Tryz.f123.name, by decide, Tryz.func123.trans (congrArg some (by kernel_rfl))⟩
  f24 := ⟨Tryz.f124.name, by decide, Tryz.func124.trans (congrArg some (by kernel_rfl))⟩
  f25 := ⟨Tryz.f125.name, by decide, Tryz.func125.trans (congrArg some (by kernel_rfl))⟩
  f26 := ⟨Tryz.f126.name, by decide, Tryz.func126.trans (congrArg some (by kernel_rfl))⟩
  f27 := ⟨Tryz.f127.name, by decide, Tryz.func127.trans (congrArg some (by kernel_rfl))⟩
  f28 := Tryz.func106.trans (congrArg some (by kernel_rfl))
  f29 := Tryz.func107.trans (congrArg some (by kernel_rfl))
  f46 := ⟨Tryz.f130.name, by decide, Tryz.func130.trans (congrArg some (by kernel_rfl))⟩
  f47 := Tryz.func116.trans (congrArg some (by kernel_rfl))
  f48 := Tryz.func117.trans (congrArg some (by kernel_rfl))
  f49 := ⟨Tryz.f131.name, by decide, Tryz.func131.trans (congrArg some (by kernel_rfl))⟩
  f50 := ⟨Tryz.f132.name, by decide, Tryz.func132.trans (congrArg some (by kernel_rfl))⟩
  f57 := ⟨Tryz.f133.name, by decide, Tryz.func133.trans (congrArg some (by kernel_rfl))⟩
  t0 := Tryz.underlying0
  a0 := Tryz.isAgg0
  z0 := Tryz.sizeOf0
  v0 := Tryz.zeroValue0
  t3 := Tryz.underlying3
  a3 := Tryz.isAgg3
  z3 := Tryz.sizeOf3
  v3 := Tryz.zeroValue3
  t4 := Tryz.underlying4
  a4 := Tryz.isAgg4
  z4 := Tryz.sizeOf4
  v4 := Tryz.zeroValue4
  t5 := Tryz.underlying5
  a5 := Tryz.isAgg5
  z5 := Tryz.sizeOf5
  v5 := Tryz.zeroValue5
  t9 := Tryz.underlying9
  a9 := Tryz.isAgg9
  z9 := Tryz.sizeOf9
  v9 := Tryz.zeroValue9
  t22 := Tryz.underlying64
  a22 := Tryz.isAgg64
  z22 := Tryz.sizeOf64
  v22 := Tryz.zeroValue64
  t25 := Tryz.underlying111
  a25 := Tryz.isAgg111
  z25 := Tryz.sizeOf111
  v25 := Tryz.zeroValue111
  t39 := Tryz.underlying91
  a39 := Tryz.isAgg91
  z39 := Tryz.sizeOf91
  v39 := Tryz.zeroValue91
  t45 := Tryz.underlying126
  a45 := Tryz.isAgg126
  z45 := Tryz.sizeOf126
  v45 := Tryz.zeroValue126
  t46 := Tryz.underlying127
  a46 := Tryz.isAgg127
  z46 := Tryz.sizeOf127
  v46 := Tryz.zeroValue127
  t50 := Tryz.underlying75
  a50 := Tryz.isAgg75
  z50 := Tryz.sizeOf75
  v50 := Tryz.zeroValue75
  t53 := Tryz.underlying132
  a53 := Tryz.isAgg132
  z53 := Tryz.sizeOf132
  v53 := Tryz.zeroValue132
  t55 := Tryz.underlying134
  a55 := Tryz.isAgg134
  z55 := Tryz.sizeOf134
  v55 := Tryz.zeroValue134
  t66 := Tryz.underlying143
  a66 := Tryz.isAgg143
  z66 := Tryz.sizeOf143
  v66 := Tryz.zeroValue143
  t70 := Tryz.underlying147
  a70 := Tryz.isAgg147
  z70 := Tryz.sizeOf147
  v70 := Tryz.zeroValue147
  t76 := Tryz.underlying155
  a76 := Tryz.isAgg155
  z76 := Tryz.sizeOf155
  v76 := Tryz.zeroValue155
  t77 := Tryz.underlying156
  a77 := Tryz.isAgg156
  z77 := Tryz.sizeOf156
  v77 := Tryz.zeroValue156 }
theorem laid_grow {a b : World} (h : Laid a b) : ∃ q os, b = Sort.grow (a.drewN q) os := by
  obtain ⟨h1, h2⟩ := h
  refine ⟨b.drawn - a.drawn, b.heap.extract a.heap.size b.heap.size, ?_⟩
  obtain ⟨ho, ht, hu, hs, hb⟩ := h1
  obtain ⟨bh, bt, bd, bo, bu⟩ := b
  obtain ⟨ah, at', ad, ao, au⟩ := a
  simp only at ho ht hu hs hb h2
  subst ho ht hu
  unfold Sort.grow World.drewN
  simp only
  congr 1
  · apply Array.ext
    · simp; omega
    · intro i h3 h4
      by_cases hi : i < ah.size
      · rw [Array.getElem_append_left hi]
        have := hb i hi
        rw [Array.getElem?_eq_getElem h3, Array.getElem?_eq_getElem hi] at this
        injection this
      · rw [Array.getElem_append_right (by omega), Array.getElem_extract]
        congr 1
        omega
  · omega
instance : Inhabited Vou := ⟨noVou⟩
theorem cmpLaysV (blk off size : Nat) (w : World) : CmpLays Tryz.prog 81 #[] Vou.cells 7 cmpVo blk off size w := fun m os dk _ x y => by
  refine Calls.mono (compareV_any x y _) ?_
  rintro e w' ⟨rfl, h⟩
  exact ⟨rfl, laid_grow h⟩
theorem vrow_at (l : List Vou) (t : Nat) (h : t < l.length * 7) : (rowC Vou.cells l)[t]? = some ((Vou.cells (l.getD (t / 7) noVou)).getD (t % 7) undef) := by
  have h1 : t / 7 < l.length := by omega
  have e : t = t / 7 * 7 + t % 7 := by omega
  conv => lhs; rw [e, ← List.getElem?_drop, rowC_drop Vou.len, List.drop_eq_getElem_cons h1]
  show (Vou.cells l[t / 7] ++ rowC Vou.cells _)[t % 7]? = _
  have e1 : l.getD (t / 7) noVou = l[t / 7] := by rw [List.getD_eq_getElem?_getD, List.getElem?_eq_getElem h1]; rfl
  rw [e1, List.getElem?_append_left (by rw [Vou.len]; omega), List.getD_eq_getElem?_getD, List.getElem?_eq_getElem (by rw [Vou.len]; omega)]
  rfl
theorem vflat_at (l : List Vou) (t : Nat) (h : t < l.length * 7) : some ((flatK Vou.cells 7 l.toArray)[t]!) = (rowC Vou.cells l)[t]? := by
  rw [get_flatK _ _ _ _ (by simpa using h), vrow_at l t h]
  have h1 : t / 7 < l.length := by omega
  congr 1
  have e1 : l.toArray[t / 7]! = l.getD (t / 7) noVou := by
    rw [getElem!_pos _ _ (by simpa using h1), List.getD_eq_getElem?_getD, List.getElem?_eq_getElem h1]
    rfl
  rw [e1]
  generalize l.getD (t / 7) noVou = x
  rw [getElem!_pos _ _ (by rw [Vou.len]; omega), List.getD_eq_getElem?_getD, List.getElem?_eq_getElem (by rw [Vou.len]; omega)]
  rfl
theorem cmpVo_swo : Go.Sort.SWO (ltOf cmpVo) where
  irrefl x := by unfold ltOf; rw [decide_eq_false_iff_not, cmpVo_iff]; unfold ltV; omega
  trans x y z h k := by unfold ltOf at *; rw [decide_eq_true_eq, cmpVo_iff] at *; exact ltV_trans h k
  ntrans x y z h k := by unfold ltOf at *; rw [decide_eq_false_iff_not, cmpVo_iff] at *; unfold ltV at *; omega
theorem below_put (w : World) (m blk off : Nat) (d : Array Vou) (os : Array Obj) {B : Nat} (hB : B ≤ blk) (hb : B ≤ w.heap.size) : RowKit.Below B w (sortWorldK Vou.cells 7 w blk off m d os) := by
  refine ⟨rfl, rfl, rfl, ?_, fun k hk => ?_⟩
  · exact size_sortWorldK_c Vou.cells 7 w blk off m d os
  · unfold sortWorldK Sort.grow putRowK putRow mapBlock Sort.ahead
    simp only
    rw [Array.getElem?_append_left (by simp; omega), Array.getElem?_modify, if_neg (by omega)]
/-- The list of a sorted row. -/
def SortedV (l : List Vou) : Prop := ∀ i j, i < j → j < l.length → ¬ cmpVo (l.getD j noVou) (l.getD i noVou) < 0
set_option maxHeartbeats 1000000 in
theorem sortV_any (B : Nat) (v : Value) (n : Nat) (l : List Vou) (w : World) (ho : w.ownsRow B 67 7 v n (rowC Vou.cells l)) (h0 : 0 < n) (hn : n ≤ 1000000) (hB : B ≤ w.heap.size) :
    Calls Tryz.prog 80 #[v, .func (.func 81) #[] #[]] w fun e w' => e = .returned (.tuple #[]) ∧ ∃ A c l', v = .slice A n c ∧ l'.Perm l ∧ SortedV l' ∧ VRow w' A n c l' ∧ RowKit.Below B w w' := by
  obtain ⟨hlen, ⟨rfl, hz⟩ | ⟨g, cap, cur, rfl, hBg, hg, hnc, hcm, hcs, htk⟩⟩ := ho
  · omega
  have hln : l.length = n := by rw [rowC_len Vou.len] at hlen; omega
  have hcur : ∀ t, t < n * 7 → cur[t]? = (rowC Vou.cells l)[t]? := fun t ht => by
    rw [← htk, List.getElem?_take_of_lt ht]; simp
  have hH : HoldsK Vou.cells 7 w g 0 l.toArray := by
    intro t ht
    have ht' : t < l.length * 7 := by simpa using ht
    rw [Nat.zero_add]
    refine ⟨?_, ?_⟩
    · rw [cell_of_row _ _ _ _ _ _ hg, hcur t (by rw [← hln]; exact ht'), ← vflat_at l t ht']; rfl
    · unfold World.frozen?
      rw [hg]
      simp
  have hblk : g < w.heap.size := (Array.getElem?_eq_some_iff.1 hg).1
  have eg : ∀ args w, (callFunc 81 args).run Tryz.prog w = .ok (.enter 81 args) w := enters_of Tryz.func81 (by kernel_rfl) rfl
  have hcon := AnyQ.slices_SortFunc sortVou 7 Tryz.isAgg67 Tryz.sizeOf67 Vou.cells Vou.len (fun x u hu => x.ones u hu) cmpVo cmpVo_swo 81 #[] g 0 cap l.toArray w eg (cmpLaysV g 0 _ w) hH hblk (by simp; omega)
  rw [List.size_toArray, hln] at hcon
  refine Calls.mono hcon ?_
  rintro e w' ⟨rfl, d', m, os, hp, hs, rfl⟩
  obtain ⟨hps, -, hpp⟩ := hp
  have hds : d'.size = n := by rw [hps, List.size_toArray, hln]
  refine ⟨rfl, _, _, d'.toList, rfl, ?_, ?_, ?_, below_put w m g 0 d' os hBg hB⟩
  · have e1 : d'.extract 0 n = d' := by rw [← hds]; simp
    have e2 : l.toArray.extract 0 n = l.toArray := by rw [← hln, ← List.size_toArray]; simp
    rw [e1, e2] at hpp
    exact hpp
  · intro i j hij hj
    have hj' : j < d'.size := by simpa using hj
    have h := hs i j (Nat.zero_le _) hij (by omega)
    unfold ltOf at h
    have h2 := of_decide_eq_false h
    have ei : d'[i]! = d'.toList.getD i noVou := by
      rw [getElem!_pos _ _ (by omega), List.getD_eq_getElem?_getD, List.getElem?_eq_getElem (by simp; omega)]; simp
    have ej : d'[j]! = d'.toList.getD j noVou := by
      rw [getElem!_pos _ _ (by omega), List.getD_eq_getElem?_getD, List.getElem?_eq_getElem (by simp; omega)]; simp
    rw [← ei, ← ej]
    exact h2
  · have hH2 := holdsK_sortWorldK_c Vou.cells 7 w g 0 l.toArray d' m os hH hblk (by simp [hds, hln])
    refine ⟨by rw [rowC_len Vou.len]; simp [hds], hnc, fun h => (by cases h), fun ad hA _ => ?_⟩
    injection hA with hA
    subst hA
    refine ⟨g, 0, rfl, fun t ht => ?_⟩
    have ht' : t < d'.size * 7 := by rw [hds]; exact ht
    have h := (hH2 t (by simpa using ht')).1
    rw [h]
    have := vflat_at d'.toList t (by simpa using ht')
    rw [← this]
    simp
theorem sortV_all (B : Nat) (v : Value) (n : Nat) (l : List Vou) (w : World) (ho : w.ownsRow B 67 7 v n (rowC Vou.cells l)) (hn : n ≤ 1000000) (hB : B ≤ w.heap.size) :
    Calls Tryz.prog 80 #[v, .func (.func 81) #[] #[]] w fun e w' => e = .returned (.tuple #[]) ∧ ∃ A c l', v = .slice A n c ∧ l'.Perm l ∧ SortedV l' ∧ VRow w' A n c l' ∧ RowKit.Below B w w' := by
  by_cases h0 : 0 < n
  · exact sortV_any B v n l w ho h0 hn hB
  · obtain ⟨A, c, hv, hr⟩ := Row.of_own ho
    have hn0 : n = 0 := by omega
    subst hn0
    have hl : l = [] := List.eq_nil_of_length_eq_zero (VRow.len hr)
    subst hl hv
    refine Calls.mono (AnyF.slices_SortFunc_none sortVou A c _ w) ?_
    rintro e w' ⟨rfl, rfl⟩
    exact ⟨rfl, A, c, [], rfl, List.Perm.refl _, fun i j _ h => absurd h (Nat.not_lt_zero _), hr, RowKit.Below.refl _ _⟩
theorem vouches_same {L : List Stm} (h : Ord10 L) {l' : List Vou} (hp : l'.Perm ((L.filter fun s => decide (s.kind = 1)).map (vouOf L))) (hs : SortedV l') : l' = vouchesS L := by
  have hk : (((L.filter fun s => decide (s.kind = 1)).map (vouOf L))).Pairwise fun a b => ¬ keyV a b := by
    rw [List.pairwise_map]
    exact (h.apartN.filter _).imp fun hn hkk => hn ⟨hkk.1, hkk.2.2⟩
  have hk2 : l'.Pairwise fun a b => ¬ keyV a b := (hp.pairwise_iff (fun {a b} hab hba => hab ⟨hba.1.symm, hba.2.1.symm, hba.2.2.symm⟩)).2 hk
  refine sorted_ext (r := ltV) (fun a b h k => by unfold ltV at *; omega) ?_ (vouches_sorted h) fun y => ?_
  · rw [List.pairwise_iff_getElem] at hk2 ⊢
    intro i j hi hj hij
    have h1 := hk2 i j hi hj hij
    have h2 := hs i j hij hj
    rw [cmpVo_iff, getDV hi, getDV hj] at h2
    exact ltV_of_not h2 fun q => h1 ⟨q.1.symm, q.2.1.symm, q.2.2.symm⟩
  · rw [hp.mem_iff, vouches_mem h, List.mem_map]
    constructor
    · rintro ⟨s, hs, rfl⟩
      obtain ⟨h1, h2⟩ := List.mem_filter.1 hs
      exact ⟨s, h1, by simpa using h2, rfl⟩
    · rintro ⟨s, h1, h2, rfl⟩
      exact ⟨s, List.mem_filter.2 ⟨h1, by simpa using h2⟩, rfl⟩
end Go.Proofs.YtnmpbjgccbnomaaGreat
/- The walk of vouch's Of. -/
namespace Go.Proofs.YtnmpbjgccbnomaaGreat
open Go.RowKit Go Go.ChangeMaps
def rawV (L m : List Stm) : List Vou := (m.filter fun s => decide (s.kind = 1)).map (vouOf L)
theorem rawV_snoc (L m : List Stm) (s : Stm) : rawV L (m ++ [s]) = rawV L m ++ (if s.kind = 1 then [vouOf L s] else []) := by
  unfold rawV
  rw [List.filter_append, List.map_append]
  congr 1
  by_cases h : s.kind = 1
  · rw [if_pos h, List.filter_cons_of_pos (by simpa using h)]; rfl
  · rw [if_neg h, List.filter_cons_of_neg (by simpa using h)]; rfl
theorem rawV_len (L m : List Stm) : (rawV L m).length ≤ m.length := by unfold rawV; rw [List.length_map]; exact List.length_filter_le _ _
theorem rev_cell {w : World} {g : Nat} {p : Vou} (h : w.heap[g]? = some (.cells p.arr 67 (0, 0))) (v : Int) : (w.setCell ⟨g, 6, none⟩ (.int .i64 v)).heap[g]? = some (.cells (Vou.arr { p with rv := v }) 67 (0, 0)) := heap_setCell_same w g 6 _ _ _ h
set_option maxRecDepth 100000 in
set_option maxHeartbeats 4000000 in
theorem vOf_any (A : Option Addr) (n c : Nat) (l : List Pl) (w : World) (hl : LRow w A n c l) (hn : n ≤ 100000) (ho : Ord10 (l.map (·.s))) : Calls Tryz.prog 51 #[.slice A n c] w (GivesV w (vouchesS (l.map (·.s)))) := by
  have HL := Lib.hid hl; have HLN := Lib.hid hl.len; have HO := Lib.hid ho
  have HRV := Lib.hid (revs_any A n c l w hl hn)
  have HLR : Hid (∀ s, (lookP (revP (l.map (·.s))) (s.author, s.number)).getD (-1) = revokedS (l.map (·.s)) s) := Lib.hid fun s => look_rev _ s
  clear hl ho
  go_enter Tryz.func51, Tryz.ntmps51
  go_wp2_with fail
  refine HRV.out.mono ?_
  rintro e w1 ⟨bm, rfl, hm, hb⟩
  have HM := Lib.hid hm; have HW := Lib.hid hb; have HBM : Hid (bm < w1.heap.size) := Lib.hid hm.lt
  clear hm hb HRV
  replace HL := Lib.hid (HL.out.later HW.out)
  go_wp2_with fail
  go_loopw [4, 14] (fun v i wr => ∃ j : Nat, j ≤ n ∧ i = .int .i64 j ∧ Hid (wr.ownsRow w1.heap.size 67 7 v (rawV (l.map (·.s)) ((l.take j).map (·.s))).length (rowC Vou.cells (rawV (l.map (·.s)) ((l.take j).map (·.s)))) ∧ Below w1.heap.size w1 wr)) (fun _ i _ => n - (intOf i).toNat)
  case atStart => exact ⟨0, Nat.zero_le _, rfl, Lib.hid ⟨World.ownsRow_nil _ _ _ _, Below.refl _ _⟩⟩
  case round =>
    obtain ⟨j, hj, rfl, HQ⟩ := hrel
    obtain ⟨A1, c1, hv, -⟩ := Row.of_own HQ.out.1
    subst hv
    by_cases hlt : j < n
    · have hlt2 : (j : Int) < (n : Int) := by omega
      obtain ⟨b, off, hA, hc⟩ := (HL.out.later HQ.out.2).cells j hlt
      subst hA
      have HC := Lib.hid hc
      have HST : Hid (rawV (l.map (·.s)) ((l.take (j + 1)).map (·.s)) = rawV (l.map (·.s)) ((l.take j).map (·.s)) ++ (if (l.getD j noPl).s.kind = 1 then [vouOf (l.map (·.s)) (l.getD j noPl).s] else [])) := Lib.hid (by rw [take_snocP l j (by rw [HLN.out]; exact hlt), List.map_append]; exact rawV_snoc _ _ _)
      have HUL : Hid ((rawV (l.map (·.s)) ((l.take j).map (·.s))).length ≤ 100000) := Lib.hid (Nat.le_trans (rawV_len _ _) (by rw [List.length_map, List.length_take]; omega))
      have HLK := Lib.hid (HLR.out (l.getD j noPl).s)
      have HVO : Hid (vouOf (l.map (·.s)) (l.getD j noPl).s = ⟨(l.getD j noPl).s.author, (l.getD j noPl).s.a, (l.getD j noPl).s.b, (l.getD j noPl).s.number, (l.getD j noPl).s.time, (l.getD j noPl).s.c, revokedS (l.map (·.s)) (l.getD j noPl).s⟩) := Lib.hid rfl
      clear hc
      generalize l.getD j noPl = q at *
      generalize rawV (l.map (·.s)) ((l.take j).map (·.s)) = U at *
      generalize vouOf (l.map (·.s)) q.s = V at *
      generalize revokedS (l.map (·.s)) q.s = RV at *
      generalize revP (l.map (·.s)) = RP at *
      go_upto_region 6 with (first | (refine wpList_load_cells rfl 48 (.tmp 16) rfl b (off + j * 13) rfl q.arr _ Tryz.underlying48 rfl q.info HC.out ?_) | (refine wpList_store_new rfl 48 (.tmp 6) (.tmp 17) rfl 48 _ q.arr rfl rfl q.info rfl q.one ?_))
      have HN2 := Lib.hid (one_new wr (.cells q.arr 48))
      have HX : Hid ((wr.alloc (.cells q.arr 48)).heap[wr.heap.size]? = some (.cells q.arr 48 (0, 0))) := Lib.hid (heap_alloc_new _ _)
      have HW1 : Hid (w1.heap.size ≤ wr.heap.size) := Lib.hid HQ.out.2.size
      have HB := Lib.hid (HQ.out.2.trans (HN2.out.mono HQ.out.2.size))
      have HU := Lib.hid (own_later HQ.out.1 HN2.out)
      clear HQ HN2 HC
      generalize wr.alloc (.cells q.arr 48) = x2 at *
      generalize wr.heap.size = g at *
      have hq4 : x2.cell? ⟨g, 4, none⟩ = some (.int .i64 q.s.kind) := (cell_of_row _ _ 4 _ _ _ HX.out).trans rfl
      by_cases hk : q.s.kind = 1
      · have b0 : (q.s.kind != 1) = false := by rw [hk]; rfl
        have HST2 : Hid (rawV (l.map (·.s)) ((l.take (j + 1)).map (·.s)) = U ++ [V]) := Lib.hid (by rw [HST.out, if_pos hk])
        clear hk HST
        go_upto_region 7 with fail
        clear b0 hq4
        have hq0 : x2.cell? ⟨g, 0, none⟩ = some (.int .i64 q.s.author) := (cell_of_row _ _ 0 _ _ _ HX.out).trans rfl
        have hq1 : x2.cell? ⟨g, 1, none⟩ = some (.int .i64 q.s.number) := (cell_of_row _ _ 1 _ _ _ HX.out).trans rfl
        have hq3 : x2.cell? ⟨g, 3, none⟩ = some (.int .i64 q.s.time) := (cell_of_row _ _ 3 _ _ _ HX.out).trans rfl
        have hq5 : x2.cell? ⟨g, 5, none⟩ = some (.int .i64 q.s.a) := (cell_of_row _ _ 5 _ _ _ HX.out).trans rfl
        have hq6 : x2.cell? ⟨g, 6, none⟩ = some (.int .i64 q.s.b) := (cell_of_row _ _ 6 _ _ _ HX.out).trans rfl
        have hq7 : x2.cell? ⟨g, 7, none⟩ = some (.int .i64 q.s.c) := (cell_of_row _ _ 7 _ _ _ HX.out).trans rfl
        go_upto_region 8 with (refine wpList_store_new rfl 67 (.tmp 7) (.tmp 33) rfl 67 _ (Vou.arr ⟨q.s.author, q.s.a, q.s.b, q.s.number, q.s.time, q.s.c, -1⟩) rfl rfl (Vou.info _) rfl (Vou.one _) ?_)
        clear hq0 hq1 hq3 hq5 hq6 hq7
        generalize hV0 : (⟨q.s.author, q.s.a, q.s.b, q.s.number, q.s.time, q.s.c, -1⟩ : Vou) = V0 at *
        have HV0 := Lib.hid hV0
        clear hV0
        have HN3 := Lib.hid (one_new x2 (.cells V0.arr 67))
        have HY : Hid ((x2.alloc (.cells V0.arr 67)).heap[x2.heap.size]? = some (.cells V0.arr 67 (0, 0))) := Lib.hid (heap_alloc_new _ _)
        have HG3 : Hid (w1.heap.size ≤ x2.heap.size) := Lib.hid HB.out.size
        have HNE : Hid (∀ k, (Value.slice A1 U.length c1).ownBlock = some k → k < x2.heap.size) := Lib.hid fun k hk => own_lt HU.out k hk
        replace HB := Lib.hid (HB.out.trans (HN3.out.mono HB.out.size))
        replace HX := Lib.hid ((HN3.out.block _ (Array.getElem?_eq_some_iff.1 HX.out).1).trans HX.out)
        replace HU := Lib.hid (own_later HU.out HN3.out)
        clear HN3
        generalize x2.alloc (.cells V0.arr 67) = z2 at *
        generalize x2.heap.size = g3 at *
        have hq0 : z2.cell? ⟨g, 0, none⟩ = some (.int .i64 q.s.author) := (cell_of_row _ _ 0 _ _ _ HX.out).trans rfl
        have hq1 : z2.cell? ⟨g, 1, none⟩ = some (.int .i64 q.s.number) := (cell_of_row _ _ 1 _ _ _ HX.out).trans rfl
        have hlk := run_lookP (HM.out.later (HB.out.mono (Nat.le_refl _))) (q.s.author, q.s.number)
        unfold pkV at hlk
        simp only at hlk
        have hul := HUL.out
        cases hlook : lookP RP (q.s.author, q.s.number) with
        | none =>
          rw [hlook] at hlk
          simp only [Option.getD_none, Option.isSome_none] at hlk
          have HVV : Hid (V0 = V) := Lib.hid (by rw [HVO.out, ← HV0.out, ← HLK.out, hlook]; rfl)
          clear hlook HV0 HVO HLK
          rw [HVV.out] at HY
          have hsz := HB.out.size
          have hvs : V.arr.size = 7 := rfl
          go_wp2_with (first | (refine wpList_load_row rfl 67 (.tmp 7) rfl g3 rfl 67 V.arr (0, 0) _ HY.out Tryz.underlying67 rfl V.info ?_) | (at_builtin; (first | rw [fold7n] | rw [fold7]); go_must (refine wpList_app_newK _ rfl (.tmp 47) (.tmp 49) 64 67 rfl w1.heap.size Tryz.underlying64 vou_info rfl _ U.length (rowC Vou.cells U) HU.out rfl 1 V.arr rfl V.ones rfl rfl (by unfold maxLen; omega) (by omega) hsz ?_); intro x3 z3 ho hb hk1 hk2; have HO4 := Lib.hid ho; have HB4 := Lib.hid (HB.out.trans hb); clear ho hb hk1 hk2))
          exact ⟨⟨j + 1, by omega, by go_num, Lib.hid (by rw [HST2.out, List.length_append, rowC_app, rowC_single]; exact ⟨HO4.out, HB4.out⟩)⟩, by simp [intOf]; omega⟩
        | some v =>
          rw [hlook] at hlk
          simp only [Option.getD_some, Option.isSome_some] at hlk
          have HVV : Hid ({ V0 with rv := v } = V) := Lib.hid (by rw [HVO.out, ← HV0.out, ← HLK.out, hlook]; rfl)
          clear hlook HV0 HVO HLK
          have HY2 := Lib.hid (rev_cell HY.out v)
          rw [HVV.out] at HY2
          have hy6 : z2.cell? ⟨g3, 6, none⟩ = some (.int .i64 V0.rv) := (cell_of_row _ _ 6 _ _ _ HY.out).trans rfl
          have hfz : z2.frozen? ⟨g3, 6, none⟩ = false := by unfold World.frozen?; rw [HY.out]; simp
          have HB2 := Lib.hid (HB.out.setCell (p := ⟨g3, 6, none⟩) HG3.out (.int .i64 v))
          have HU2 := Lib.hid (own_keepL HU.out fun k hk => Below.heap_setCell z2 ⟨g3, 6, none⟩ (.int .i64 v) k (Nat.ne_of_lt (HNE.out k hk)))
          clear HY
          go_upto_region 11 with fail
          clear hlk hq0 hq1 hy6 hfz HB HU HX
          generalize z2.setCell ⟨g3, 6, none⟩ (.int .i64 v) = z4 at *
          have hsz : w1.heap.size ≤ z4.heap.size := HB2.out.size
          have hvs : V.arr.size = 7 := rfl
          go_wp2_with (first | (refine wpList_load_row rfl 67 (.tmp 7) rfl g3 rfl 67 V.arr (0, 0) _ HY2.out Tryz.underlying67 rfl V.info ?_) | (at_builtin; (first | rw [fold7n] | rw [fold7]); go_must (refine wpList_app_newK _ rfl (.tmp 47) (.tmp 49) 64 67 rfl w1.heap.size Tryz.underlying64 vou_info rfl _ U.length (rowC Vou.cells U) HU2.out rfl 1 V.arr rfl V.ones rfl rfl (by unfold maxLen; omega) (by omega) hsz ?_); intro x3 z3 ho hb hk1 hk2; have HO4 := Lib.hid ho; have HB4 := Lib.hid (HB2.out.trans hb); clear ho hb hk1 hk2))
          exact ⟨⟨j + 1, by omega, by go_num, Lib.hid (by rw [HST2.out, List.length_append, rowC_app, rowC_single]; exact ⟨HO4.out, HB4.out⟩)⟩, by simp [intOf]; omega⟩
      · have b0 : (q.s.kind != 1) = true := by rw [bne_iff_ne]; exact hk
        have HE : Hid (rawV (l.map (·.s)) ((l.take (j + 1)).map (·.s)) = U) := Lib.hid (by rw [HST.out, if_neg hk, List.append_nil])
        clear hk
        go_wp2_with fail
        exact ⟨⟨j + 1, by omega, by go_num, Lib.hid (by rw [HE.out]; exact ⟨HU.out, HB.out⟩)⟩, by simp [intOf]; omega⟩
    · have hlt2 : ¬ (j : Int) < (n : Int) := by omega
      have hj2 : j = n := by omega
      have HE : Hid ((l.take j).map (·.s) = l.map (·.s)) := Lib.hid (by rw [List.take_of_length_le (by rw [HLN.out]; omega)])
      have HO2 := Lib.hid HQ.out.1; have HB := Lib.hid HQ.out.2
      rw [HE.out] at HO2
      have HUL : Hid ((rawV (l.map (·.s)) (l.map (·.s))).length ≤ 100000) := Lib.hid (Nat.le_trans (rawV_len _ _) (by rw [List.length_map, HLN.out]; exact hn))
      have HSO := Lib.hid (sortV_all w1.heap.size _ _ _ wr HO2.out (Nat.le_trans HUL.out (by decide)) HB.out.size)
      have HEQ : Hid (∀ l' : List Vou, l'.Perm (rawV (l.map (·.s)) (l.map (·.s))) → SortedV l' → l' = vouchesS (l.map (·.s))) := Lib.hid fun l' hp hs => vouches_same HO.out hp hs
      rw [HE.out]
      clear HQ HE
      generalize rawV (l.map (·.s)) (l.map (·.s)) = U at *
      go_wp2_with fail
      refine HSO.out.mono ?_
      rintro e w5 ⟨rfl, A5, c5, l5, hv5, hp5, hs5, hr5, hb5⟩
      injection hv5 with hA5 _ hc5
      subst hA5 hc5
      have HR5 := Lib.hid hr5
      have HS5 := Lib.hid (HEQ.out l5 hp5 hs5)
      have HB5 := Lib.hid (HW.out.trans ((HB.out.trans hb5).mono HW.out.size))
      clear hr5 hp5 hs5 hb5 HSO
      go_wp2_with fail
      go_ret
      refine ⟨_, _, _, rfl, ?_, HB5.out⟩
      rw [← HS5.out]
      exact HR5.out
end Go.Proofs.YtnmpbjgccbnomaaGreat
/- Who has resigned, once each, ascending: what sorting and leaving repeats out comes to. Plain facts. -/
namespace Go.Proofs.YtnmpbjgccbnomaaGreat
open Go.RowKit Go.Lib
theorem compact_mem (d : Array Int) (x : Int) : ∀ m, x ∈ compactUpTo d m ↔ ∃ j, j < m ∧ d[j]! = x
  | 0 => by simp [compactUpTo]
  | m + 1 => by
    rw [compactUpTo_succ, List.mem_append, compact_mem d x m]
    by_cases hk : keeps d m = true
    · rw [if_pos hk]
      constructor
      · rintro (⟨j, hj, he⟩ | h)
        · exact ⟨j, by omega, he⟩
        · exact ⟨m, by omega, (List.mem_singleton.1 h).symm⟩
      · rintro ⟨j, hj, he⟩
        by_cases h : j = m
        · subst h; exact .inr (by rw [he]; simp)
        · exact .inl ⟨j, by omega, he⟩
    · rw [if_neg hk]
      constructor
      · rintro (⟨j, hj, he⟩ | h)
        · exact ⟨j, by omega, he⟩
        · cases h
      · rintro ⟨j, hj, he⟩
        by_cases h : j = m
        · subst h
          unfold keeps at hk
          rw [decide_eq_true_eq, not_or] at hk
          exact .inl ⟨j - 1, by omega, by rw [← he]; have := hk.2; by_cases q : d[j]! = d[j - 1]!; exact q.symm; exact absurd q this⟩
        · exact .inl ⟨j, by omega, he⟩
theorem compact_asc (d : Array Int) (hd : ∀ i j, i < j → j < d.size → d[i]! ≤ d[j]!) : ∀ m, m ≤ d.size → (compactUpTo d m).Pairwise (· < ·)
  | 0, _ => by simp [compactUpTo]
  | m + 1, hm => by
    rw [compactUpTo_succ]
    have ih := compact_asc d hd m (by omega)
    by_cases hk : keeps d m = true
    · rw [if_pos hk]
      refine List.pairwise_append.2 ⟨ih, List.pairwise_singleton _ _, fun a ha b hb => ?_⟩
      rw [List.mem_singleton.1 hb]
      obtain ⟨j, hj, rfl⟩ := (compact_mem d a m).1 ha
      unfold keeps at hk
      rw [decide_eq_true_eq] at hk
      have hne : d[m]! ≠ d[m - 1]! := by rcases hk with h | h; omega; exact h
      have h1 : d[m - 1]! ≤ d[m]! := hd _ _ (by omega) (by omega)
      have h2 : d[j]! ≤ d[m - 1]! := by
        by_cases h : j = m - 1
        · rw [h]; exact Int.le_refl _
        · exact hd _ _ (by omega) (by omega)
      omega
    · rw [if_neg hk, List.append_nil]
      exact ih
theorem compact_len (d : Array Int) : ∀ m, (compactUpTo d m).length ≤ m
  | 0 => by simp [compactUpTo]
  | m + 1 => by
    rw [compactUpTo_succ, List.length_append]
    have := compact_len d m
    split
    · simp; omega
    · simp; omega
/-- The authors of the resignations by a time. -/
def goneRaw (L : List Stm) (tm : Int) : List Int := ((untilS tm L).filter fun s => decide (s.kind = 3)).map (·.author)
theorem goneRaw_mem (L : List Stm) (tm x : Int) : x ∈ goneRaw L tm ↔ isGoneB L tm x = true := by
  unfold goneRaw isGoneB
  rw [List.any_eq_true, List.mem_map]
  constructor
  · rintro ⟨s, hs, rfl⟩
    obtain ⟨h1, h2⟩ := List.mem_filter.1 hs
    obtain ⟨h3, h4⟩ := (until_iff tm L s).1 h1
    refine ⟨s, h3, ?_⟩
    unfold leftB
    rw [decide_eq_true rfl, h2, decide_eq_true h4]; rfl
  · rintro ⟨s, hs, hb⟩
    unfold leftB at hb
    rw [Bool.and_eq_true, Bool.and_eq_true, decide_eq_true_eq, decide_eq_true_eq, decide_eq_true_eq] at hb
    exact ⟨s, List.mem_filter.2 ⟨(until_iff tm L s).2 ⟨hs, hb.2⟩, decide_eq_true hb.1.2⟩, hb.1.1⟩
theorem goneUp_mem (L : List Stm) (tm x : Int) : ∀ j : Nat, x ∈ goneUp L tm j ↔ 0 ≤ x ∧ x < (j : Int) ∧ isGoneB L tm x = true
  | 0 => by
    constructor
    · intro h; cases h
    · rintro ⟨h1, h2, _⟩; omega
  | j + 1 => by
    show x ∈ goneUp L tm j ++ (if isGoneB L tm (j : Int) then [(j : Int)] else []) ↔ _
    rw [List.mem_append, goneUp_mem L tm x j]
    constructor
    · rintro (⟨h1, h2, h3⟩ | h)
      · exact ⟨h1, by omega, h3⟩
      · split at h
        · rename_i hg
          have := List.mem_singleton.1 h
          subst this
          exact ⟨by omega, by omega, hg⟩
        · cases h
    · rintro ⟨h1, h2, h3⟩
      by_cases h : x = (j : Int)
      · subst h; exact .inr (by rw [if_pos h3]; simp)
      · exact .inl ⟨h1, by omega, h3⟩
theorem goneUp_asc (L : List Stm) (tm : Int) : ∀ j : Nat, (goneUp L tm j).Pairwise (· < ·)
  | 0 => List.Pairwise.nil
  | j + 1 => by
    show (goneUp L tm j ++ (if isGoneB L tm (j : Int) then [(j : Int)] else [])).Pairwise (· < ·)
    split
    · refine List.pairwise_append.2 ⟨goneUp_asc L tm j, List.pairwise_singleton _ _, fun a ha b hb => ?_⟩
      rw [List.mem_singleton.1 hb]
      exact ((goneUp_mem L tm a j).1 ha).2.1
    · rw [List.append_nil]; exact goneUp_asc L tm j
theorem check_author {s : Stm} (h : checkV s = 0) : 0 ≤ s.author ∧ s.author < 64 := by
  unfold checkV at h
  split at h
  · exact absurd h (by decide)
  · rename_i ha
    have ha2 : isKeyB s.author = true := by simpa using ha
    unfold isKeyB at ha2
    simp only [btw, Bool.and_eq_true, decide_eq_true_eq] at ha2
    omega
theorem sorted_bang (zs : List Int) (i j : Nat) (hij : i < j) (hj : j < (zs.mergeSort fun x y => decide (x ≤ y)).toArray.size) : (zs.mergeSort fun x y => decide (x ≤ y)).toArray[i]! ≤ (zs.mergeSort fun x y => decide (x ≤ y)).toArray[j]! := by
  have hp : (zs.mergeSort fun x y => decide (x ≤ y)).Pairwise fun a b => decide (a ≤ b) = true := List.pairwise_mergeSort (fun a b c h k => by rw [decide_eq_true_eq] at *; omega) (fun a b => by rw [Bool.or_eq_true, decide_eq_true_eq, decide_eq_true_eq]; omega) zs
  generalize zs.mergeSort (fun x y => decide (x ≤ y)) = m at *
  have hj' : j < m.length := by simpa using hj
  rw [getElem!_pos _ i (by simp; omega), getElem!_pos _ j (by simpa using hj)]
  have := List.pairwise_iff_getElem.1 hp i j (by omega) hj' hij
  simpa using this
theorem gone_same {L : List Stm} (h : ∀ s ∈ L, checkV s = 0) (tm : Int) : compactUpTo ((goneRaw L tm).mergeSort fun x y => decide (x ≤ y)).toArray (goneRaw L tm).length = goneS L tm := by
  have hlen : ((goneRaw L tm).mergeSort fun x y => decide (x ≤ y)).toArray.size = (goneRaw L tm).length := by simp [List.length_mergeSort]
  refine sorted_ext (r := (· < ·)) (fun a b h k => by omega) (compact_asc _ (sorted_bang _) _ (by rw [hlen]; exact Nat.le_refl _)) (goneUp_asc L tm 64) fun x => ?_
  rw [compact_mem, show (x ∈ goneS L tm) = (x ∈ goneUp L tm 64) from rfl, goneUp_mem]
  have h1 : (∃ j, j < (goneRaw L tm).length ∧ ((goneRaw L tm).mergeSort fun x y => decide (x ≤ y)).toArray[j]! = x) ↔ x ∈ goneRaw L tm := by
    rw [← List.mem_mergeSort (le := fun x y => decide (x ≤ y)), List.mem_iff_getElem]
    constructor
    · rintro ⟨j, hj, he⟩
      refine ⟨j, by rw [List.length_mergeSort]; exact hj, ?_⟩
      rw [getElem!_pos _ j (by rw [hlen]; exact hj)] at he
      simpa using he
    · rintro ⟨j, hj, he⟩
      rw [List.length_mergeSort] at hj
      refine ⟨j, hj, ?_⟩
      rw [getElem!_pos _ j (by rw [hlen]; exact hj)]
      simpa using he
  rw [h1, goneRaw_mem]
  constructor
  · intro hg
    unfold isGoneB at hg
    obtain ⟨s, hs, hb⟩ := List.any_eq_true.1 hg
    have ha := check_author (h s hs)
    have : s.author = x := by
      unfold leftB at hb
      rw [Bool.and_eq_true, Bool.and_eq_true, decide_eq_true_eq] at hb
      exact hb.1.1
    exact ⟨by omega, by omega, hg⟩
  · exact fun h => h.2.2
end Go.Proofs.YtnmpbjgccbnomaaGreat
/- slices.Sort and slices.Compact over numbers: the shelf's contracts at this program. -/
namespace Go.Proofs.YtnmpbjgccbnomaaGreat
open Go.RowKit Go.Shelf Go.Sort Go.Lib
def sortInt_ren : Go.Shelf.Ren := ⟨fun | 125 => 78 | 128 => 106 | 129 => 107 | 189 => 49 | 215 => 85 | 216 => 103 | 257 => 77 | 294 => 97 | 295 => 98 | 296 => 99 | 297 => 100 | 298 => 101 | 299 => 102 | 300 => 104 | 301 => 105 | 328 => 115 | 329 => 116 | 330 => 117 | 331 => 118 | 332 => 119 | 343 => 129 | n => n, fun | 0 => 0 | 3 => 3 | 4 => 4 | 5 => 5 | 9 => 9 | 28 => 22 | 46 => 91 | 51 => 132 | 53 => 134 | 131 => 75 | 182 => 126 | 183 => 127 | 218 => 143 | 222 => 147 | 228 => 155 | 229 => 156 | n => n, fun | n => n⟩
theorem sortInt : Lays.n189 Tryz.prog sortInt_ren := {
  mixed := by kernel_rfl
  f125 := Tryz.func78.trans (congrArg some (by kernel_rfl))
  f128 := Tryz.func106.trans (congrArg some (by kernel_rfl))
  f129 := Tryz.func107.trans (congrArg some (by kernel_rfl))
  f189 := Tryz.func49.trans (congrArg some (by kernel_rfl))
  f215 := Tryz.func85.trans (congrArg some (by kernel_rfl))
  f216 := Tryz.func103.trans (congrArg some (by kernel_rfl))
  f257 := Tryz.func77.trans (congrArg some (by kernel_rfl))
  f294 := Tryz.func97.trans (congrArg some (by kernel_rfl))
  f295 := Tryz.func98.trans (congrArg some (by kernel_rfl))
  f296 := Tryz.func99.trans (congrArg some (by kernel_rfl))
  f297 := Tryz.func100.trans (congrArg some (by kernel_rfl))
  f298 := Tryz.func101.trans (congrArg some (by kernel_rfl))
  f299 := Tryz.func102.trans (congrArg some (by kernel_rfl))
  f300 := Tryz.func104.trans (congrArg some (by kernel_rfl))
  f301 := Tryz.func105.trans (congrArg some (by kernel_rfl))
  f328 := Tryz.func115.trans (congrArg some (by kernel_rfl))
  f329 := Tryz.func116.trans (congrArg some (by kernel_rfl))
  f330 := Tryz.func117.trans (congrArg some (by kernel_rfl))
  f331 := Tryz.func118.trans (congrArg some (by kernel_rfl))
  f332 := Tryz.func119.trans (congrArg some (by kernel_rfl))
  f343 := Tryz.func129.trans (congrArg some (by kernel_rfl))
  t0 := Tryz.underlying0
  a0 := Tryz.isAgg0
  z0 := Tryz.sizeOf0
  v0 := Tryz.zeroValue0
  t3 := Tryz.underlying3
  a3 := Tryz.isAgg3
  z3 := Tryz.sizeOf3
  v3 := Tryz.zeroValue3
  t4 := Tryz.underlying4
  a4 := Tryz.isAgg4
  z4 := Tryz.sizeOf4
  v4 := Tryz.zeroValue4
  t5 := Tryz.underlying5
  a5 := Tryz.isAgg5
  z5 := Tryz.sizeOf5
  v5 := Tryz.zeroValue5
  t9 := Tryz.underlying9
  a9 := Tryz.isAgg9
  z9 := Tryz.sizeOf9
  v9 := Tryz.zeroValue9
  t28 := Tryz.underlying22
  a28 := Tryz.isAgg22
  z28 := Tryz.sizeOf22
  v28 := Tryz.zeroValue22
  t46 := Tryz.underlying91
  a46 := Tryz.isAgg91
  z46 := Tryz.sizeOf91
  v46 := Tryz.zeroValue91
  t51 := Tryz.underlying132
  a51 := Tryz.isAgg132
  z51 := Tryz.sizeOf132
  v51 := Tryz.zeroValue132
  t53 := Tryz.underlying134
  a53 := Tryz.isAgg134
  z53 := Tryz.sizeOf134
  v53 := Tryz.zeroValue134
  t131 := Tryz.underlying75
  a131 := Tryz.isAgg75
  z131 := Tryz.sizeOf75
  v131 := Tryz.zeroValue75
  t182 := Tryz.underlying126
  a182 := Tryz.isAgg126
  z182 := Tryz.sizeOf126
  v182 := Tryz.zeroValue126
  t183 := Tryz.underlying127
  a183 := Tryz.isAgg127
  z183 := Tryz.sizeOf127
  v183 := Tryz.zeroValue127
  t218 := Tryz.underlying143
  a218 := Tryz.isAgg143
  z218 := Tryz.sizeOf143
  v218 := Tryz.zeroValue143
  t222 := Tryz.underlying147
  a222 := Tryz.isAgg147
  z222 := Tryz.sizeOf147
  v222 := Tryz.zeroValue147
  t228 := Tryz.underlying155
  a228 := Tryz.isAgg155
  z228 := Tryz.sizeOf155
  v228 := Tryz.zeroValue155
  t229 := Tryz.underlying156
  a229 := Tryz.isAgg156
  z229 := Tryz.sizeOf156
  v229 := Tryz.zeroValue156 }
def compactInt_ren : Go.Shelf.Ren := ⟨fun | 43 => 50 | n => n, fun | 0 => 0 | 3 => 3 | 4 => 4 | 22 => 22 | 23 => 3 | n => n, fun | n => n⟩
theorem compactInt : SlLaysE.n43 Tryz.prog compactInt_ren := {
  mixed := by kernel_rfl
  f43 := ⟨Tryz.f50.name, by decide, Tryz.func50.trans (congrArg some (by kernel_rfl))⟩
  t0 := Tryz.underlying0
  a0 := Tryz.isAgg0
  z0 := Tryz.sizeOf0
  v0 := Tryz.zeroValue0
  t3 := Tryz.underlying3
  a3 := Tryz.isAgg3
  z3 := Tryz.sizeOf3
  v3 := Tryz.zeroValue3
  t4 := Tryz.underlying4
  a4 := Tryz.isAgg4
  z4 := Tryz.sizeOf4
  v4 := Tryz.zeroValue4
  t22 := Tryz.underlying22
  a22 := Tryz.isAgg22
  z22 := Tryz.sizeOf22
  v22 := Tryz.zeroValue22
  a23 := Tryz.isAgg3
  z23 := Tryz.sizeOf3 }
theorem holds_own {w : World} {g n : Nat} {l : List Int} {cur : List Value} {t : TypeId} (hg : w.heap[g]? = some (.cells cur.toArray t (0, 0))) (hn : l.length = n) (htk : cur.take n = intsV l) : Holds (Value.int .i64) w g 0 l.toArray := by
  intro j hj
  have hj' : j < l.length := by simpa using hj
  rw [Nat.zero_add]
  refine ⟨?_, ?_⟩
  · rw [cell_of_row _ _ _ _ _ _ hg]
    have h1 : cur[j]? = (intsV l)[j]? := by rw [← htk, List.getElem?_take_of_lt (by omega)]
    rw [show cur.toArray[j]? = cur[j]? by simp, h1]
    simp [intsV, hj']
    rfl
  · unfold World.frozen?
    rw [hg]
    simp
theorem below_row (w : World) (m g : Nat) (d : Array Int) (os : Array Obj) {B : Nat} (hB : B ≤ g) (hb : B ≤ w.heap.size) : RowKit.Below B w (Sort.grow (putRow (Value.int .i64) (Sort.ahead w m) g 0 d) os) := by
  refine ⟨rfl, rfl, rfl, ?_, fun k hk => ?_⟩
  · unfold Sort.grow putRow mapBlock Sort.ahead
    simp
  · unfold Sort.grow putRow mapBlock Sort.ahead
    simp only
    rw [Array.getElem?_append_left (by simp; omega), Array.getElem?_modify, if_neg (by omega)]
set_option maxRecDepth 100000 in
theorem compactNone (p : Option Addr) (cap : Nat) (w : World) : Calls Tryz.prog 50 #[.slice p 0 cap] w fun e w' => e = .returned (.slice p 0 cap) ∧ w' = w := by
  go_enter Tryz.func50, Tryz.ntmps50
  go_wp2
  go_ret
  exact ⟨rfl, rfl⟩
/-- A list of one's own, sorted. -/
structure Laidint (w : World) (B g n cap : Nat) (l : List Int) : Prop where
  lo : B ≤ g
  lt : g < w.heap.size
  holds : Holds (Value.int .i64) w g 0 l.toArray
  len : l.length = n
  cap : n ≤ cap
theorem laid_of_own {w : World} {B : Nat} {v : Value} {n : Nat} {l : List Int} (ho : w.ownsRow B 3 1 v n (intsV l)) (h0 : 0 < n) : ∃ g cap, v = .slice (some ⟨g, 0, none⟩) n cap ∧ Laidint w B g n cap l := by
  obtain ⟨hlen, ⟨rfl, hz⟩ | ⟨g, cap, cur, rfl, hBg, hg, hnc, hcm, hcs, htk⟩⟩ := ho
  · omega
  · have hln : l.length = n := by simpa [intsV] using hlen
    exact ⟨g, cap, rfl, hBg, (Array.getElem?_eq_some_iff.1 hg).1, holds_own (cur := cur.toList) (by simpa using hg) hln (by simpa using htk), hln, hnc⟩
theorem sortI_any {w : World} {B g n cap : Nat} {l : List Int} (h : Laidint w B g n cap l) (hn : n ≤ 1000000) (hB : B ≤ w.heap.size) : Calls Tryz.prog 49 #[.slice (some ⟨g, 0, none⟩) n cap] w fun e w' => e = .returned (.tuple #[]) ∧ Laidint w' B g n cap (l.mergeSort fun x y => decide (x ≤ y)) ∧ RowKit.Below B w w' := by
  have hc := Any.slices_Sort_int sortInt g 0 cap l w h.holds h.lt (by rw [h.len]; omega)
  rw [h.len] at hc
  refine Calls.mono hc ?_
  rintro e w' ⟨rfl, m, os, rfl⟩
  refine ⟨rfl, ⟨h.lo, ?_, ?_, by rw [List.length_mergeSort]; exact h.len, h.cap⟩, below_row w m g _ os h.lo hB⟩
  · have := h.lt
    unfold Sort.grow putRow mapBlock Sort.ahead
    simp; omega
  · exact holds_grow _ _ _ _ _ _ (by unfold putRow mapBlock Sort.ahead; simpa using h.lt) (holds_putRow _ _ _ _ l.toArray _ (holds_ahead _ _ _ _ _ _ h.holds) (by simp [List.length_mergeSort]))
theorem compactI_any {w : World} {B g n cap : Nat} {l : List Int} (h : Laidint w B g n cap l) (hn : n ≤ 1000000) (hB : B ≤ w.heap.size) : Calls Tryz.prog 50 #[.slice (some ⟨g, 0, none⟩) n cap] w fun e w' => ∃ A m c, e = .returned (.slice A m c) ∧ IRow w' A m c (compactUpTo l.toArray n) ∧ (∀ ad, A = some ad → B ≤ ad.block) ∧ RowKit.Below B w w' := by
  have hsz : l.toArray.size = n := by rw [List.size_toArray, h.len]
  have hc := AnyE.slices_Compact compactInt (Value.int .i64) (fun _ => rfl) (EqlAt.intD _ _ _) (NeqAt.intD _ _ _) 0 Tryz.zeroValue3 g 0 cap l.toArray w h.holds (by rw [hsz]; omega) (by rw [hsz]; exact h.cap)
  rw [hsz] at hc
  refine Calls.mono hc ?_
  rintro e w' ⟨rfl, q, rfl⟩
  have hl := compact_len l.toArray n
  have hH := holds_putRow (Value.int .i64) (Sort.ahead w q) g 0 l.toArray ((compactUpTo l.toArray n) ++ List.replicate (n - (compactUpTo l.toArray n).length) 0).toArray (holds_ahead _ _ _ _ _ _ h.holds) (by simp [h.len]; omega)
  refine ⟨_, _, _, rfl, ?_, fun ad hA => (by injection hA with hA; subst hA; exact h.lo), by have := below_row w q g ((compactUpTo l.toArray n) ++ List.replicate (n - (compactUpTo l.toArray n).length) 0).toArray #[] h.lo hB; rwa [grow_empty] at this⟩
  refine ⟨by simp [intsV], by have := h.cap; omega, fun h => (by cases h), fun ad hA _ => ?_⟩
  injection hA with hA
  subst hA
  refine ⟨g, 0, rfl, fun t ht => ?_⟩
  have ht' : t < (compactUpTo l.toArray n).length := by simpa using ht
  rw [(hH t (by simp; omega)).1, getElem!_pos _ t (by simp; omega)]
  simp [intsV, ht']
  rfl
end Go.Proofs.YtnmpbjgccbnomaaGreat
