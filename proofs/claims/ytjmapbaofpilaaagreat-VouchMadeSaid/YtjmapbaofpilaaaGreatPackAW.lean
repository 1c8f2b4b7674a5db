import Derived.Test.YtjmapbaofpilaaaGreatPackAU
import Derived.Lib.SlicesCompact
import Derived.Shelf.Sort.Plain
import Derived.Shelf.Slices.In.SortNone
import Derived.Shelf.SlicesE.Compact
import Derived.Test.YtjmapbaofpilaaaGreatPackAT
import Derived.Test.YtjmapbaofpilaaaGreatPackAQ
import Derived.Test.YtjmapbaofpilaaaGreatPackAC
import Derived.Deep.CutBlock
import Derived.Deep.DeepCutAuto
/- Who has resigned, once each, ascending: what sorting and leaving repeats out comes to. Plain facts. -/
namespace Go.Proofs.YtjmapbaofpilaaaGreat
open Go.RowKit Go.Lib
theorem compact_mem (d : Array Int) (x : Int) : ∀ m, x ∈ compactUpTo d m ↔ ∃ j, j < m ∧ d[j]! = x
  | 0 => by simp [compactUpTo]
  | m + 1 => by
    rw [compactUpTo_succ, List.mem_append, compact_mem d x m]
    by_cases hk : keeps d m = true
    · rw [if_pos hk]
      constructor
      · rintro (⟨j, hj, he⟩ | h)
        · exact ⟨j, by omega, he⟩
        · exact ⟨m, by omega, (List.mem_singleton.1 h).symm⟩
      · rintro ⟨j, hj, he⟩
        by_cases h : j = m
        · subst h; exact .inr (by rw [he]; simp)
        · exact .inl ⟨j, by omega, he⟩
    · rw [if_neg hk]
      constructor
      · rintro (⟨j, hj, he⟩ | h)
        · exact ⟨j, by omega, he⟩
        · cases h
      · rintro ⟨j, hj, he⟩
        by_cases h : j = m
        · subst h
          unfold keeps at hk
          rw [decide_eq_true_eq, not_or] at hk
          exact .inl ⟨j - 1, by omega, by rw [← he]; have := hk.2; by_cases q : d[j]! = d[j - 1]!; exact q.symm; exact absurd q this⟩
        · exact .inl ⟨j, by omega, he⟩
theorem compact_asc (d : Array Int) (hd : ∀ i j, i < j → j < d.size → d[i]! ≤ d[j]!) : ∀ m, m ≤ d.size → (compactUpTo d m).Pairwise (· < ·)
  | 0, _ => by simp [compactUpTo]
  | m + 1, hm => by
    rw [compactUpTo_succ]
    have ih := compact_asc d hd m (by omega)
    by_cases hk : keeps d m = true
    · rw [if_pos hk]
      refine List.pairwise_append.2 ⟨ih, List.pairwise_singleton _ _, fun a ha b hb => ?_⟩
      rw [List.mem_singleton.1 hb]
      obtain ⟨j, hj, rfl⟩ := (compact_mem d a m).1 ha
      unfold keeps at hk
      rw [decide_eq_true_eq] at hk
      have hne : d[m]! ≠ d[m - 1]! := by rcases hk with h | h; omega; exact h
      have h1 : d[m - 1]! ≤ d[m]! := hd _ _ (by omega) (by omega)
      have h2 : d[j]! ≤ d[m - 1]! := by
        by_cases h : j = m - 1
        · rw [h]; exact Int.le_refl _
        · exact hd _ _ (by omega) (by omega)
      omega
    · rw [if_neg hk, List.append_nil]
      exact ih
theorem compact_len (d : Array Int) : ∀ m, (compactUpTo d m).length ≤ m
  | 0 => by simp [compactUpTo]
  | m + 1 => by
    rw [compactUpTo_succ, List.length_append]
    have := compact_len d m
    split
    · simp; omega
    · simp; omega
/-- The authors of the resignations by a time. -/
def goneRaw (L : List Stm) (tm : Int) : List Int := ((untilS tm L).filter fun s => decide (s.kind = 3)).map (·.author)
theorem goneRaw_mem (L : List Stm) (tm x : Int) : x ∈ goneRaw L tm ↔ isGoneB L tm x = true := by
  unfold goneRaw isGoneB
  rw [List.any_eq_true, List.mem_map]
  constructor
  · rintro ⟨s, hs, rfl⟩
    obtain ⟨h1, h2⟩ := List.mem_filter.1 hs
    obtain ⟨h3, h4⟩ := (until_iff tm L s).1 h1
    refine ⟨s, h3, ?_⟩
    unfold leftB
    rw [decide_eq_true rfl, h2, decide_eq_true h4]; rfl
  · rintro ⟨s, hs, hb⟩
    unfold leftB at hb
    rw [Bool.and_eq_true, Bool.and_eq_true, decide_eq_true_eq, decide_eq_true_eq, decide_eq_true_eq] at hb
    exact ⟨s, List.mem_filter.2 ⟨(until_iff tm L s).2 ⟨hs, hb.2⟩, decide_eq_true hb.1.2⟩, hb.1.1⟩
theorem goneUp_mem (L : List Stm) (tm x : Int) : ∀ j : Nat, x ∈ goneUp L tm j ↔ 0 ≤ x ∧ x < (j : Int) ∧ isGoneB L tm x = true
  | 0 => by
    constructor
    · intro h; cases h
    · rintro ⟨h1, h2, _⟩; omega
  | j + 1 => by
    show x ∈ goneUp L tm j ++ (if isGoneB L tm (j : Int) then [(j : Int)] else []) ↔ _
    rw [List.mem_append, goneUp_mem L tm x j]
    constructor
    · rintro (⟨h1, h2, h3⟩ | h)
      · exact ⟨h1, by omega, h3⟩
      · split at h
        · rename_i hg
          have := List.mem_singleton.1 h
          subst this
          exact ⟨by omega, by omega, hg⟩
        · cases h
    · rintro ⟨h1, h2, h3⟩
      by_cases h : x = (j : Int)
      · subst h; exact .inr (by rw [if_pos h3]; simp)
      · exact .inl ⟨h1, by omega, h3⟩
theorem goneUp_asc (L : List Stm) (tm : Int) : ∀ j : Nat, (goneUp L tm j).Pairwise (· < ·)
  | 0 => List.Pairwise.nil
  | j + 1 => by
    show (goneUp L tm j ++ (if isGoneB L tm (j : Int) then [(j : Int)] else [])).Pairwise (· < ·)
    split
    · refine List.pairwise_append.2 ⟨goneUp_asc L tm j, List.pairwise_singleton _ _, fun a ha b hb => ?_⟩
      rw [List.mem_singleton.1 hb]
      exact ((goneUp_mem L tm a j).1 ha).2.1
    · rw [List.append_nil]; exact goneUp_asc L tm j
theorem check_author {s : Stm} (h : checkV s = 0) : 0 ≤ s.author ∧ s.author < 64 := by
  unfold checkV at h
  split at h
  · exact absurd h (by decide)
  · rename_i ha
    have ha2 : isKeyB s.author = true := by simpa using ha
    unfold isKeyB at ha2
    simp only [btw, Bool.and_eq_true, decide_eq_true_eq] at ha2
    omega
theorem sorted_bang (zs : List Int) (i j : Nat) (hij : i < j) (hj : j < (zs.mergeSort fun x y => decide (x ≤ y)).toArray.size) : (zs.mergeSort fun x y => decide (x ≤ y)).toArray[i]! ≤ (zs.mergeSort fun x y => decide (x ≤ y)).toArray[j]! := by
  have hp : (zs.mergeSort fun x y => decide (x ≤ y)).Pairwise fun a b => decide (a ≤ b) = true := List.pairwise_mergeSort (fun a b c h k => by rw [decide_eq_true_eq] at *; omega) (fun a b => by rw [Bool.or_eq_true, decide_eq_true_eq, decide_eq_true_eq]; omega) zs
  generalize zs.mergeSort (fun x y => decide (x ≤ y)) = m at *
  have hj' : j < m.length := by simpa using hj
  rw [getElem!_pos _ i (by simp; omega), getElem!_pos _ j (by simpa using hj)]
  have := List.pairwise_iff_getElem.1 hp i j (by omega) hj' hij
  simpa using this
theorem gone_same {L : List Stm} (h : ∀ s ∈ L, checkV s = 0) (tm : Int) : compactUpTo ((goneRaw L tm).mergeSort fun x y => decide (x ≤ y)).toArray (goneRaw L tm).length = goneS L tm := by
  have hlen : ((goneRaw L tm).mergeSort fun x y => decide (x ≤ y)).toArray.size = (goneRaw L tm).length := by simp [List.length_mergeSort]
  refine sorted_ext (r := (· < ·)) (fun a b h k => by omega) (compact_asc _ (sorted_bang _) _ (by rw [hlen]; exact Nat.le_refl _)) (goneUp_asc L tm 64) fun x => ?_
  rw [compact_mem, show (x ∈ goneS L tm) = (x ∈ goneUp L tm 64) from rfl, goneUp_mem]
  have h1 : (∃ j, j < (goneRaw L tm).length ∧ ((goneRaw L tm).mergeSort fun x y => decide (x ≤ y)).toArray[j]! = x) ↔ x ∈ goneRaw L tm := by
    rw [← List.mem_mergeSort (le := fun x y => decide (x ≤ y)), List.mem_iff_getElem]
    constructor
    · rintro ⟨j, hj, he⟩
      refine ⟨j, by rw [List.length_mergeSort]; exact hj, ?_⟩
      rw [getElem!_pos _ j (by rw [hlen]; exact hj)] at he
      simpa using he
    · rintro ⟨j, hj, he⟩
      rw [List.length_mergeSort] at hj
      refine ⟨j, hj, ?_⟩
      rw [getElem!_pos _ j (by rw [hlen]; exact hj)]
      simpa using he
  rw [h1, goneRaw_mem]
  constructor
  · intro hg
    unfold isGoneB at hg
    obtain ⟨s, hs, hb⟩ := List.any_eq_true.1 hg
    have ha := check_author (h s hs)
    have : s.author = x := by
      unfold leftB at hb
      rw [Bool.and_eq_true, Bool.and_eq_true, decide_eq_true_eq] at hb
      exact hb.1.1
    exact ⟨by omega, by omega, hg⟩
  · exact fun h => h.2.2
end Go.Proofs.YtjmapbaofpilaaaGreat
/- slices.Sort and slices.Compact over numbers: the shelf's contracts at this program. -/
namespace Go.Proofs.YtjmapbaofpilaaaGreat
open Go.RowKit Go.Shelf Go.Sort Go.Lib
def sortInt_ren : Go.Shelf.Ren := ⟨fun | 125 => 50 | 128 => 79 | 129 => 80 | 189 => 42 | 215 => 81 | 216 => 91 | 257 => 64 | 294 => 85 | 295 => 86 | 296 => 87 | 297 => 88 | 298 => 89 | 299 => 90 | 300 => 92 | 301 => 93 | 328 => 104 | 329 => 100 | 330 => 101 | 331 => 105 | 332 => 106 | 343 => 109 | n => n, fun | 0 => 0 | 3 => 3 | 4 => 4 | 5 => 5 | 9 => 9 | 28 => 22 | 46 => 85 | 51 => 109 | 53 => 111 | 131 => 64 | 182 => 102 | 183 => 103 | 218 => 127 | 222 => 131 | 228 => 136 | 229 => 137 | n => n, fun | n => n⟩
theorem sortInt : Lays.n189 Tryz.prog sortInt_ren := {
  mixed := by kernel_rfl
  f125 := Tryz.func50.trans (congrArg some (by kernel_rfl))
  f128 := Tryz.func79.trans (congrArg some (by kernel_rfl))
  f129 := Tryz.func80.trans (congrArg some (by kernel_rfl))
  f189 := Tryz.func42.trans (congrArg some (by kernel_rfl))
  f215 := Tryz.func81.trans (congrArg some (by kernel_rfl))
  f216 := Tryz.func91.trans (congrArg some (by kernel_rfl))
  f257 := Tryz.func64.trans (congrArg some (by kernel_rfl))
  f294 := Tryz.func85.trans (congrArg some (by kernel_rfl))
  f295 := Tryz.func86.trans (congrArg some (by kernel_rfl))
  f296 := Tryz.func87.trans (congrArg some (by kernel_rfl))
  f297 := Tryz.func88.trans (congrArg some (by kernel_rfl))
  f298 := Tryz.func89.trans (congrArg some (by kernel_rfl))
  f299 := Tryz.func90.trans (congrArg some (by kernel_rfl))
  f300 := Tryz.func92.trans (congrArg some (by kernel_rfl))
  f301 := Tryz.func93.trans (congrArg some (by kernel_rfl))
  f328 := Tryz.func104.trans (congrArg some (by kernel_rfl))
  f329 := Tryz.func100.trans (congrArg some (by kernel_rfl))
  f330 := Tryz.func101.trans (congrArg some (by kernel_rfl))
  f331 := Tryz.func105.trans (congrArg some (by kernel_rfl))
  f332 := Tryz.func106.trans (congrArg some (by kernel_rfl))
  f343 := Tryz.func109.trans (congrArg some (by kernel_rfl))
  t0 := Tryz.underlying0
  a0 := Tryz.isAgg0
  z0 := Tryz.sizeOf0
  v0 := Tryz.zeroValue0
  t3 := Tryz.underlying3
  a3 := Tryz.isAgg3
  z3 := Tryz.sizeOf3
  v3 := Tryz.zeroValue3
  t4 := Tryz.underlying4
  a4 := Tryz.isAgg4
  z4 := Tryz.sizeOf4
  v4 := Tryz.zeroValue4
  t5 := Tryz.underlying5
  a5 := Tryz.isAgg5
  z5 := Tryz.sizeOf5
  v5 := Tryz.zeroValue5
  t9 := Tryz.underlying9
  a9 := Tryz.isAgg9
  z9 := Tryz.sizeOf9
  v9 := Tryz.zeroValue9
  t28 := Tryz.underlying22
  a28 := Tryz.isAgg22
  z28 := Tryz.sizeOf22
  v28 := Tryz.zeroValue22
  t46 := Tryz.underlying85
  a46 := Tryz.isAgg85
  z46 := Tryz.sizeOf85
  v46 := Tryz.zeroValue85
  t51 := Tryz.underlying109
  a51 := Tryz.isAgg109
  z51 := Tryz.sizeOf109
  v51 := Tryz.zeroValue109
  t53 := Tryz.underlying111
  a53 := Tryz.isAgg111
  z53 := Tryz.sizeOf111
  v53 := Tryz.zeroValue111
  t131 := Tryz.underlying64
  a131 := Tryz.isAgg64
  z131 := Tryz.sizeOf64
  v131 := Tryz.zeroValue64
  t182 := Tryz.underlying102
  a182 := Tryz.isAgg102
  z182 := Tryz.sizeOf102
  v182 := Tryz.zeroValue102
  t183 := Tryz.underlying103
  a183 := Tryz.isAgg103
  z183 := Tryz.sizeOf103
  v183 := Tryz.zeroValue103
  t218 := Tryz.underlying127
  a218 := Tryz.isAgg127
  z218 := Tryz.sizeOf127
  v218 := Tryz.zeroValue127
  t222 := Tryz.underlying131
  a222 := Tryz.isAgg131
  z222 := Tryz.sizeOf131
  v222 := Tryz.zeroValue131
  t228 := Tryz.underlying136
  a228 := Tryz.isAgg136
  z228 := Tryz.sizeOf136
  v228 := Tryz.zeroValue136
  t229 := Tryz.underlying137
  a229 := Tryz.isAgg137
  z229 := Tryz.sizeOf137
  v229 := Tryz.zeroValue137 }
def compactInt_ren : Go.Shelf.Ren := ⟨fun | 43 => 43 | n => n, fun | 0 => 0 | 3 => 3 | 4 => 4 | 22 => 22 | 23 => 3 | n => n, fun | n => n⟩
theorem compactInt : SlLaysE.n43 Tryz.prog compactInt_ren := {
  mixed := by kernel_rfl
  f43 := ⟨Tryz.f43.name, by decide, Tryz.func43.trans (congrArg some (by kernel_rfl))⟩
  t0 := Tryz.underlying0
  a0 := Tryz.isAgg0
  z0 := Tryz.sizeOf0
  v0 := Tryz.zeroValue0
  t3 := Tryz.underlying3
  a3 := Tryz.isAgg3
  z3 := Tryz.sizeOf3
  v3 := Tryz.zeroValue3
  t4 := Tryz.underlying4
  a4 := Tryz.isAgg4
  z4 := Tryz.sizeOf4
  v4 := Tryz.zeroValue4
  t22 := Tryz.underlying22
  a22 := Tryz.isAgg22
  z22 := Tryz.sizeOf22
  v22 := Tryz.zeroValue22
  a23 := Tryz.isAgg3
  z23 := Tryz.sizeOf3 }
theorem holds_own {w : World} {g n : Nat} {l : List Int} {cur : List Value} {t : TypeId} (hg : w.heap[g]? = some (.cells cur.toArray t (0, 0))) (hn : l.length = n) (htk : cur.take n = intsV l) : Holds (Value.int .i64) w g 0 l.toArray := by
  intro j hj
  have hj' : j < l.length := by simpa using hj
  rw [Nat.zero_add]
  refine ⟨?_, ?_⟩
  · rw [cell_of_row _ _ _ _ _ _ hg]
    have h1 : cur[j]? = (intsV l)[j]? := by rw [← htk, List.getElem?_take_of_lt (by omega)]
    rw [show cur.toArray[j]? = cur[j]? by simp, h1]
    simp [intsV, hj']
    rfl
  · unfold World.frozen?
    rw [hg]
    simp
theorem below_row (w : World) (m g : Nat) (d : Array Int) (os : Array Obj) {B : Nat} (hB : B ≤ g) (hb : B ≤ w.heap.size) : RowKit.Below B w (Sort.grow (putRow (Value.int .i64) (Sort.ahead w m) g 0 d) os) := by
  refine ⟨rfl, rfl, rfl, ?_, fun k hk => ?_⟩
  · unfold Sort.grow putRow mapBlock Sort.ahead
    simp
  · unfold Sort.grow putRow mapBlock Sort.ahead
    simp only
    rw [Array.getElem?_append_left (by simp; omega), Array.getElem?_modify, if_neg (by omega)]
set_option maxRecDepth 100000 in
theorem compactNone (p : Option Addr) (cap : Nat) (w : World) : Calls Tryz.prog 43 #[.slice p 0 cap] w fun e w' => e = .returned (.slice p 0 cap) ∧ w' = w := by
  go_enter Tryz.func43, Tryz.ntmps43
  go_wp2
  go_ret
  exact ⟨rfl, rfl⟩
/-- A list of one's own, sorted. -/
structure Laidint (w : World) (B g n cap : Nat) (l : List Int) : Prop where
  lo : B ≤ g
  lt : g < w.heap.size
  holds : Holds (Value.int .i64) w g 0 l.toArray
  len : l.length = n
  cap : n ≤ cap
theorem laid_of_own {w : World} {B : Nat} {v : Value} {n : Nat} {l : List Int} (ho : w.ownsRow B 3 1 v n (intsV l)) (h0 : 0 < n) : ∃ g cap, v = .slice (some ⟨g, 0, none⟩) n cap ∧ Laidint w B g n cap l := by
  obtain ⟨hlen, ⟨rfl, hz⟩ | ⟨g, cap, cur, rfl, hBg, hg, hnc, hcm, hcs, htk⟩⟩ := ho
  · omega
  · have hln : l.length = n := by simpa [intsV] using hlen
    exact ⟨g, cap, rfl, hBg, (Array.getElem?_eq_some_iff.1 hg).1, holds_own (cur := cur.toList) (by simpa using hg) hln (by simpa using htk), hln, hnc⟩
theorem sortI_any {w : World} {B g n cap : Nat} {l : List Int} (h : Laidint w B g n cap l) (hn : n ≤ 1000000) (hB : B ≤ w.heap.size) : Calls Tryz.prog 42 #[.slice (some ⟨g, 0, none⟩) n cap] w fun e w' => e = .returned (.tuple #[]) ∧ Laidint w' B g n cap (l.mergeSort fun x y => decide (x ≤ y)) ∧ RowKit.Below B w w' := by
  have hc := Any.slices_Sort_int sortInt g 0 cap l w h.holds h.lt (by rw [h.len]; omega)
  rw [h.len] at hc
  refine Calls.mono hc ?_
  rintro e w' ⟨rfl, m, os, rfl⟩
  refine ⟨rfl, ⟨h.lo, ?_, ?_, by rw [List.length_mergeSort]; exact h.len, h.cap⟩, below_row w m g _ os h.lo hB⟩
  · have := h.lt
    unfold Sort.grow putRow mapBlock Sort.ahead
    simp; omega
  · exact holds_grow _ _ _ _ _ _ (by unfold putRow mapBlock Sort.ahead; simpa using h.lt) (holds_putRow _ _ _ _ l.toArray _ (holds_ahead _ _ _ _ _ _ h.holds) (by simp [List.length_mergeSort]))
theorem compactI_any {w : World} {B g n cap : Nat} {l : List Int} (h : Laidint w B g n cap l) (hn : n ≤ 1000000) (hB : B ≤ w.heap.size) : Calls Tryz.prog 43 #[.slice (some ⟨g, 0, none⟩) n cap] w fun e w' => ∃ A m c, e = .returned (.slice A m c) ∧ IRow w' A m c (compactUpTo l.toArray n) ∧ RowKit.Below B w w' := by
  have hsz : l.toArray.size = n := by rw [List.size_toArray, h.len]
  have hc := AnyE.slices_Compact compactInt (Value.int .i64) (fun _ => rfl) (EqlAt.intD _ _ _) (NeqAt.intD _ _ _) 0 Tryz.zeroValue3 g 0 cap l.toArray w h.holds (by rw [hsz]; omega) (by rw [hsz]; exact h.cap)
  rw [hsz] at hc
  refine Calls.mono hc ?_
  rintro e w' ⟨rfl, q, rfl⟩
  have hl := compact_len l.toArray n
  have hH := holds_putRow (Value.int .i64) (Sort.ahead w q) g 0 l.toArray ((compactUpTo l.toArray n) ++ List.replicate (n - (compactUpTo l.toArray n).length) 0).toArray (holds_ahead _ _ _ _ _ _ h.holds) (by simp [h.len]; omega)
  refine ⟨_, _, _, rfl, ?_, by have := below_row w q g ((compactUpTo l.toArray n) ++ List.replicate (n - (compactUpTo l.toArray n).length) 0).toArray #[] h.lo hB; rwa [grow_empty] at this⟩
  refine ⟨by simp [intsV], by have := h.cap; omega, fun h => (by cases h), fun ad hA _ => ?_⟩
  injection hA with hA
  subst hA
  refine ⟨g, 0, rfl, fun t ht => ?_⟩
  have ht' : t < (compactUpTo l.toArray n).length := by simpa using ht
  rw [(hH t (by simp; omega)).1, getElem!_pos _ t (by simp; omega)]
  simp [intsV, ht']
  rfl
end Go.Proofs.YtjmapbaofpilaaaGreat
/- The walk of the dice's Spoil. -/
namespace Go.Proofs.YtjmapbaofpilaaaGreat
open Go.RowKit
set_option maxRecDepth 100000 in
set_option maxHeartbeats 4000000 in
theorem spoil_g (L D : Nat) (t : List Int) (A : Option Addr) (n c : Nat) (l : List Pl) (w : World) (h : ∃ k, DiceAt w L D t k) (hl : LRow w A n c l) (hn : n ≤ 100) (hs : ∀ p ∈ l, Small p.s) (bt : Int) (hbt : 0 ≤ bt ∧ bt ≤ 100000) (htl : TimL bt l) :
    Calls Tryz.prog 37 #[.pointer (some ⟨D, 0, none⟩), .slice A n c] w fun e w' => ∃ v l', e = .returned v ∧ LGot w' w.heap.size v l' ∧ l'.length ≤ n + 2 ∧ Gave L D t w w' ∧ TimL (bt + 2) l' := by
  have hDw : D < w.heap.size := by obtain ⟨k, hk⟩ := h; exact hk.lt
  have HR0 : Hid (Rnd L D t w w) := Lib.hid ⟨But.refl _ _, h⟩
  have HL := Lib.hid hl; have HS := Lib.hid hs; have HTA := Lib.hid htl
  have hbt0 := hbt.1; have hbt1 := hbt.2
  clear h hl hs htl hbt
  go_enter Tryz.func37, Tryz.ntmps37
  go_wp2_with fail
  refine (copyList_hi A n c l w HL.out (by omega) HS.out).mono ?_
  rintro e w1 ⟨v1, l1, rfl, hm, ho, hhi, hb⟩
  have HG1 : Hid (LGot w1 w.heap.size v1 l1) := Lib.hid ⟨ho, hhi, fun p hp => by
    have h1 : p.s ∈ l.map (·.s) := by rw [← hm]; exact List.mem_map_of_mem hp
    obtain ⟨r, hr, he⟩ := List.mem_map.1 h1
    rw [← he]; exact HS.out r hr⟩
  have HT1 : Hid (TimL bt l1) := Lib.hid fun p hp => by
    have h1 : p.s ∈ l.map (·.s) := by rw [← hm]; exact List.mem_map_of_mem hp
    obtain ⟨r, hr, he⟩ := List.mem_map.1 h1
    rw [← he]; exact HTA.out r hr
  have hln : l1.length ≤ n := by have h1 := congrArg List.length hm; rw [List.length_map, List.length_map, HL.out.len] at h1; omega
  have HR1 := Lib.hid (HR0.out.later hb)
  obtain ⟨A1, c1, hv, -⟩ := HG1.out.own.row
  subst hv
  clear hm ho hhi hb HR0 HL HS HTA
  by_cases hz : l1.length = 0
  · have b0 : ((l1.length : Int) == 0) = true := by rw [hz]; rfl
    have b1 : (l1.length == 0) = true := by rw [hz]; rfl
    clear hz
    go_wp2_with fail
    go_ret
    exact ⟨_, l1, rfl, HG1.out, by omega, ⟨HR1.out.dice, HR1.out.but⟩, HT1.out.mono (by omega)⟩
  · have b0 : ((l1.length : Int) == 0) = false := by rw [beq_eq_false_iff_ne]; omega
    have b1 : (l1.length == 0) = false := by rw [beq_eq_false_iff_ne]; exact hz
    have hz0 : 1 ≤ l1.length := by omega
    clear hz
    go_wp2_with fail
    refine (next_g L D t 3 w1 HR1.out.dice (by omega) (by omega)).mono ?_
    rintro e w2 ⟨N0, rfl, hN0, hN1, hg⟩
    have HR2 := Lib.hid (HR1.out.gave hg)
    replace HG1 := Lib.hid (HG1.out.but hg.2 hDw)
    clear hg HR1 b0 b1
    obtain ⟨N, rfl⟩ : ∃ N : Nat, N0 = (N : Int) := ⟨N0.toNat, by omega⟩
    go_wp2_with fail
    go_loopw [5, 6] (fun v i6 wr => ∃ (m : Nat) (l' : List Pl), i6 = .int .i64 m ∧ 1 ≤ l'.length ∧ l'.length + m ≤ n + 2 ∧ Hid (TimL (bt + 2 - (m : Int)) l') ∧ Hid (LGot wr w.heap.size v l' ∧ Rnd L D t w wr)) (fun _ i6 _ => (intOf i6).toNat)
    case atStart => exact ⟨N, l1, rfl, hz0, by omega, Lib.hid (HT1.out.mono (by omega)), Lib.hid ⟨HG1.out, HR2.out⟩⟩
    case round =>
      obtain ⟨m, l', rfl, hl1, hlm, HTL, HQ⟩ := hrel
      clear HR2 HG1 HT1 hln hz0 hN0 hN1
      obtain ⟨A1, c1, hv, -⟩ := HQ.out.1.own.row
      subst hv
      by_cases hm0 : 0 < m
      · have hm2 : (0 : Int) < (m : Int) := by omega
        have hwr : w.heap.size ≤ wr.heap.size := HQ.out.2.but.size
        have hDr : D < wr.heap.size := by omega
        have HW : Hid (Rnd L D t wr wr) := Lib.hid ⟨But.refl _ _, HQ.out.2.dice⟩
        have hle2 : (l'.length : Int) ≤ 1000000 := by omega
        have hle1 : (1 : Int) ≤ (l'.length : Int) := by omega
        go_wp2_with fail
        refine (next_g L D t (l'.length : Int) wr HW.out.dice hle1 hle2).mono ?_
        rintro e x1 ⟨I0, rfl, hI0, hI1, hg⟩
        obtain ⟨I, rfl⟩ : ∃ I : Nat, I0 = (I : Int) := ⟨I0.toNat, by omega⟩
        have hI : I < l'.length := by omega
        have HR1 := Lib.hid (HW.out.gave hg)
        have HLW := Lib.hid (HQ.out.1.but hg.2 hDw)
        clear hg HW
        obtain ⟨A7, c7, hv7, hr7⟩ := HLW.out.own.row
        injection hv7 with hv7 _ hc7
        subst hv7 hc7
        have HLR := Lib.hid hr7; clear hr7
        obtain ⟨b, off, hA, hc⟩ := HLR.out.cells I hI
        subst hA
        have HC := Lib.hid hc; clear hc
        have HOK := Lib.hid (HLR.out.at I hI); have HSM := Lib.hid (HLW.out.small _ (HLR.out.get I hI))
        have HTA := Lib.hid (HTL.out _ (HLR.out.get I hI))
        generalize l'.getD I noPl = a at *
        clear HLR
        go_wp2_with (refine wpList_load_cells rfl 58 (.tmp 26) rfl b (off + I * 13) rfl a.arr _ Tryz.underlying58 rfl a.info HC.out ?_)
        refine (copyP_any a x1 HOK.out HSM.out).mono ?_
        rintro e x2 ⟨q, rfl, hqs, hqo, hna, hnb, hb⟩
        go_upto_region 8 with (refine wpList_store_new rfl 58 (.tmp 7) (.tmp 28) rfl 58 _ q.arr rfl rfl q.info rfl q.one ?_)
        have HNW := Lib.hid (one_new x2 (.cells q.arr 58))
        have hsz : wr.heap.size ≤ x2.heap.size := Nat.le_trans HR1.out.but.size hb.size
        have HM : Hid (SpM L D t wr x2.heap.size q (x2.alloc (.cells q.arr 58))) := Lib.hid ⟨(HR1.out.later hb).later HNW.out, heap_alloc_new _ _, hqo.later HNW.out, hqo.offB (Nat.le_refl _), ⟨fun ad e => Nat.le_trans HR1.out.but.size (hna ad e), fun ad e => Nat.le_trans HR1.out.but.size (hnb ad e)⟩, by rw [hqs]; exact HSM.out, hsz, hDr⟩
        have HLF : Hid (LFree x2.heap.size (.slice (some ⟨b, off, none⟩) l'.length c1) l') := Lib.hid (HQ.out.1.free hsz)
        have HLG : Hid (LGot (x2.alloc (.cells q.arr 58)) w.heap.size (.slice (some ⟨b, off, none⟩) l'.length c1) l') := Lib.hid ((HLW.out.but (But.of hb) hDw).but (But.of HNW.out) hDw)
        have HQT : Hid (0 ≤ q.s.time ∧ q.s.time ≤ bt + 2 - (m : Int)) := Lib.hid (by rw [hqs]; exact HTA.out)
        have HT : Hid (0 ≤ q.s.time ∧ q.s.time ≤ bt + 3 - (m : Int)) := Lib.hid (by have h := HQT.out; omega)
        clear hqs hqo hna hnb hb HNW HC HOK HSM HLW HR1 HTA
        generalize x2.alloc (.cells q.arr 58) = x3 at *
        generalize x2.heap.size = g at *
        generalize hA1 : (some ⟨b, off, none⟩ : Option Addr) = A1 at *
        clear hA1
        go_wp2_with fail
        refine (next_g L D t 5 x3 HM.out.rnd.dice (by omega) (by omega)).mono ?_
        rintro e x4 ⟨K, rfl, hK0, hK1, hg⟩
        replace HM := Lib.hid (HM.out.gave hg); replace HLG := Lib.hid (HLG.out.but hg.2 hDw)
        clear hg
        go_upto_block 2 with fail
        go_cut [5] (fun v wx => ∃ (A2 : Option Addr) (c2 : Nat) (l2 : List Pl) (p2 : Pl), v = .slice A2 l2.length c2 ∧ 1 ≤ l2.length ∧ l2.length ≤ l'.length ∧ Hid (SpM L D t wr g p2 wx ∧ LGot wx w.heap.size (.slice A2 l2.length c2) l2 ∧ LFree g (.slice A2 l2.length c2) l2) ∧ Hid (0 ≤ p2.s.time ∧ p2.s.time ≤ bt + 3 - (m : Int)) ∧ Hid (TimL (bt + 2 - (m : Int)) l2))
        case first =>
          have hK : K = 0 ∨ K = 1 ∨ K = 2 ∨ K = 3 ∨ K = 4 := by omega
          clear hK0 hK1
          rcases hK with rfl | rfl | rfl | rfl | rfl
          · have hf3 : x4.frozen? ⟨g, 3, none⟩ = false := frozen_of_row _ _ _ _ _ HM.out.cur
            have hc3 : x4.cell? ⟨g, 3, none⟩ = some (.int .i64 q.s.time) := (cell_of_row _ _ 3 _ _ _ HM.out.cur).trans rfl
            go_upto_region 14 with fail
            clear hf3 hc3
            have HM2 := Lib.hid (HM.out.set { q.s with time := (wrap64 (q.s.time + 1)) } 3 (.int .i64 (wrap64 (q.s.time + 1))) rfl rfl rfl (by have hs := HM.out.small; exact ⟨hs.prev, hs.list, hs.pins, hs.all, hs.body, hs.dig⟩))
            have HT2 : Hid (0 ≤ (q.to { q.s with time := (wrap64 (q.s.time + 1)) }).s.time ∧ (q.to { q.s with time := (wrap64 (q.s.time + 1)) }).s.time ≤ bt + 3 - (m : Int)) := Lib.hid (by have h := HQT.out; show 0 ≤ wrap64 (q.s.time + 1) ∧ wrap64 (q.s.time + 1) ≤ bt + 3 - (m : Int); rw [wrap64_id7 _ (by omega)]; omega)
            replace HLG := Lib.hid (HLG.out.turn HLF.out (But.set x4 3 (.int .i64 (wrap64 (q.s.time + 1)))))
            clear HM HT
            have HM := HM2
            have HT := HT2
            clear HM2 HT2
            generalize x4.setCell ⟨g, 3, none⟩ (.int .i64 (wrap64 (q.s.time + 1))) = x5 at *
            generalize q.to { q.s with time := wrap64 (q.s.time + 1) } = q5 at *
            refine wp_region_flow (by kernel_rfl) (FC g) ?_
            replace HM := Lib.hid (HM.out.later (Later.drew x5)); replace HLG := Lib.hid (HLG.out.but (But.of (D := D) (Later.drew x5)) hDw)
            generalize x5.drew = x0 at *
            have hf3 : ∀ y, (fut (FC g) x0 y).cell? ⟨g, 3, none⟩ = some (.int .i64 q5.s.time) := fun y => (fut_ok FC.refl x0 y).1.trans HM.out.c3
            have hf4 : ∀ y, (fut (FC g) x0 y).cell? ⟨g, 4, none⟩ = some (.int .i64 q5.s.kind) := fun y => (fut_ok FC.refl x0 y).2.trans HM.out.c4
            refine flow_reads (F := FC g) FC.refl (by kernel_rfl) [0, 2, 3, 4, 5, 6] (fuel := 6) (by kernel_rfl) ?_
            simp only [List.map_cons, List.map_nil, pick, List.getD_cons_zero, List.getD_cons_succ]
            repeat (go_big_quiet_step (fail))
            refine wpQuiet_nil ?_
            clear hf3 hf4
            refine flow_two (F := FC g) (fun _ _ _ => FC.trans) FC.refl 1 7 (by kernel_rfl) (by decide) (by decide) ?_ ?_ <;> simp only [pick, List.getD_cons_zero, List.getD_cons_succ]
            · have hc7 : x0.cell? ⟨g, 7, none⟩ = some (.int .i64 q5.s.c) := (cell_of_row _ _ 7 _ _ _ HM.out.cur).trans rfl
              go_wp2_with fail
              clear hc7
              refine pieceEnd_normal ⟨FC.refl _, ?_⟩
              refine flow_one (F := FC g) (fun _ _ _ => FC.trans) FC.refl 7 (by kernel_rfl) (by decide) ?_
              simp only [pick, List.getD_cons_zero, List.getD_cons_succ]
              go_wp2_with fail
              refine (mod_any _ 2 x0 (by omega) (by omega)).mono ?_
              rintro e x6 ⟨rfl, rfl⟩
              generalize modF _ 2 = md
              go_wp2_with fail
              refine pieceEnd_normal ⟨FC.refl _, ?_⟩
              refine flow_reads (F := FC g) FC.refl (by kernel_rfl) [8, 9, 10] (fuel := 1) (by kernel_rfl) ?_
              simp only [List.map_cons, List.map_nil, pick, List.getD_cons_zero, List.getD_cons_succ]
              repeat (go_big_quiet_step (fail))
              refine wpQuiet_nil ?_
              refine flow_one (F := FC g) (fun _ _ _ => FC.trans) FC.refl 11 (by kernel_rfl) (by decide) ?_
              simp only [pick, List.getD_cons_zero, List.getD_cons_succ]
              have hf7 : x0.frozen? ⟨g, 7, none⟩ = false := frozen_of_row _ _ _ _ _ HM.out.cur
              have hc7 : x0.cell? ⟨g, 7, none⟩ = some (.int .i64 q5.s.c) := (cell_of_row _ _ 7 _ _ _ HM.out.cur).trans rfl
              go_wp2_with fail
              clear hf7 hc7
              have HM2 := Lib.hid (HM.out.set { q5.s with c := (max q5.s.c (wrap64 (q5.s.time * md))) } 7 (.int .i64 (max q5.s.c (wrap64 (q5.s.time * md)))) rfl rfl rfl (by have hs := HM.out.small; exact ⟨hs.prev, hs.list, hs.pins, hs.all, hs.body, hs.dig⟩))
              have HT2 : Hid (0 ≤ (q5.to { q5.s with c := (max q5.s.c (wrap64 (q5.s.time * md))) }).s.time ∧ (q5.to { q5.s with c := (max q5.s.c (wrap64 (q5.s.time * md))) }).s.time ≤ bt + 3 - (m : Int)) := Lib.hid (HT.out)
              replace HLG := Lib.hid (HLG.out.turn HLF.out (But.set x0 7 (.int .i64 (max q5.s.c (wrap64 (q5.s.time * md))))))
              have HFC := Lib.hid (HM.out.fc HM2.out rfl rfl)
              clear HM HT
              have HM := HM2
              have HT := HT2
              clear HM2 HT2
              refine pieceEnd_normal ⟨HFC.out, ?_⟩
              clear HFC
              refine flow_done (by kernel_rfl) ?_
              go_wp2_with fail
              go_meet
              exact ⟨A1, c1, l', _, rfl, hl1, Nat.le_refl _, Lib.hid ⟨HM.out, HLG.out, HLF.out⟩, HT, HTL⟩
            · go_wp2_with fail
              refine (mod_any _ 2 x0 (by omega) (by omega)).mono ?_
              rintro e x6 ⟨rfl, rfl⟩
              generalize modF _ 2 = md
              go_wp2_with fail
              refine pieceEnd_normal ⟨FC.refl _, ?_⟩
              refine flow_reads (F := FC g) FC.refl (by kernel_rfl) [8] (fuel := 4) (by kernel_rfl) ?_
              simp only [List.map_cons, List.map_nil, pick, List.getD_cons_zero, List.getD_cons_succ]
              repeat (go_big_quiet_step (fail))
              refine wpQuiet_nil ?_
              refine flow_one (F := FC g) (fun _ _ _ => FC.trans) FC.refl 1 (by kernel_rfl) (by decide) ?_
              simp only [pick, List.getD_cons_zero, List.getD_cons_succ]
              have hc7 : x0.cell? ⟨g, 7, none⟩ = some (.int .i64 q5.s.c) := (cell_of_row _ _ 7 _ _ _ HM.out.cur).trans rfl
              go_wp2_with fail
              clear hc7
              refine pieceEnd_normal ⟨FC.refl _, ?_⟩
              refine flow_reads (F := FC g) FC.refl (by kernel_rfl) [9, 10] (fuel := 1) (by kernel_rfl) ?_
              simp only [List.map_cons, List.map_nil, pick, List.getD_cons_zero, List.getD_cons_succ]
              repeat (go_big_quiet_step (fail))
              refine wpQuiet_nil ?_
              refine flow_one (F := FC g) (fun _ _ _ => FC.trans) FC.refl 11 (by kernel_rfl) (by decide) ?_
              simp only [pick, List.getD_cons_zero, List.getD_cons_succ]
              have hf7 : x0.frozen? ⟨g, 7, none⟩ = false := frozen_of_row _ _ _ _ _ HM.out.cur
              have hc7 : x0.cell? ⟨g, 7, none⟩ = some (.int .i64 q5.s.c) := (cell_of_row _ _ 7 _ _ _ HM.out.cur).trans rfl
              go_wp2_with fail
              clear hf7 hc7
              have HM2 := Lib.hid (HM.out.set { q5.s with c := (max q5.s.c (wrap64 (q5.s.time * md))) } 7 (.int .i64 (max q5.s.c (wrap64 (q5.s.time * md)))) rfl rfl rfl (by have hs := HM.out.small; exact ⟨hs.prev, hs.list, hs.pins, hs.all, hs.body, hs.dig⟩))
              have HT2 : Hid (0 ≤ (q5.to { q5.s with c := (max q5.s.c (wrap64 (q5.s.time * md))) }).s.time ∧ (q5.to { q5.s with c := (max q5.s.c (wrap64 (q5.s.time * md))) }).s.time ≤ bt + 3 - (m : Int)) := Lib.hid (HT.out)
              replace HLG := Lib.hid (HLG.out.turn HLF.out (But.set x0 7 (.int .i64 (max q5.s.c (wrap64 (q5.s.time * md))))))
              have HFC := Lib.hid (HM.out.fc HM2.out rfl rfl)
              clear HM HT
              have HM := HM2
              have HT := HT2
              clear HM2 HT2
              refine pieceEnd_normal ⟨HFC.out, ?_⟩
              clear HFC
              refine flow_done (by kernel_rfl) ?_
              go_wp2_with fail
              go_meet
              exact ⟨A1, c1, l', _, rfl, hl1, Nat.le_refl _, Lib.hid ⟨HM.out, HLG.out, HLF.out⟩, HT, HTL⟩
          · go_upto_region 16 with fail
            refine wp_region_flow (by kernel_rfl) (FC g) ?_
            replace HM := Lib.hid (HM.out.later (Later.drew x4)); replace HLG := Lib.hid (HLG.out.but (But.of (D := D) (Later.drew x4)) hDw)
            generalize x4.drew = x0 at *
            refine flow_reads (F := FC g) FC.refl (by kernel_rfl) [0, 3] (fuel := 7) (by kernel_rfl) ?_
            simp only [List.map_cons, List.map_nil, pick, List.getD_cons_zero, List.getD_cons_succ]
            repeat (go_big_quiet_step (fail))
            refine wpQuiet_nil ?_
            refine flow_two (F := FC g) (fun _ _ _ => FC.trans) FC.refl 1 4 (by kernel_rfl) (by decide) (by decide) ?_ ?_ <;> simp only [pick, List.getD_cons_zero, List.getD_cons_succ]
            · have hc1 : x0.cell? ⟨g, 1, none⟩ = some (.int .i64 q.s.number) := (cell_of_row _ _ 1 _ _ _ HM.out.cur).trans rfl
              go_wp2_with fail
              clear hc1
              refine pieceEnd_normal ⟨FC.refl _, ?_⟩
              refine flow_reads (F := FC g) FC.refl (by kernel_rfl) [2] (fuel := 5) (by kernel_rfl) ?_
              simp only [List.map_cons, List.map_nil, pick, List.getD_cons_zero, List.getD_cons_succ]
              repeat (go_big_quiet_step (fail))
              refine wpQuiet_nil ?_
              refine flow_one (F := FC g) (fun _ _ _ => FC.trans) FC.refl 4 (by kernel_rfl) (by decide) ?_
              simp only [pick, List.getD_cons_zero, List.getD_cons_succ]
              go_wp2_with fail
              refine (next_g L D t 3 x0 HM.out.rnd.dice (by omega) (by omega)).mono ?_
              rintro e x6 ⟨dv, rfl, hd0, hd1, hg⟩
              have HM2 := Lib.hid (HM.out.gave hg)
              replace HLG := Lib.hid (HLG.out.but hg.2 hDw)
              have HFC := Lib.hid (HM.out.fc HM2.out rfl rfl)
              clear HM hg hd0 hd1
              have HM := HM2
              clear HM2
              go_wp2_with fail
              refine pieceEnd_normal ⟨HFC.out, ?_⟩
              clear HFC
              refine flow_reads (F := FC g) FC.refl (by kernel_rfl) [5, 6, 7] (fuel := 1) (by kernel_rfl) ?_
              simp only [List.map_cons, List.map_nil, pick, List.getD_cons_zero, List.getD_cons_succ]
              repeat (go_big_quiet_step (fail))
              refine wpQuiet_nil ?_
              refine flow_one (F := FC g) (fun _ _ _ => FC.trans) FC.refl 8 (by kernel_rfl) (by decide) ?_
              simp only [pick, List.getD_cons_zero, List.getD_cons_succ]
              have hf1 : x6.frozen? ⟨g, 1, none⟩ = false := frozen_of_row _ _ _ _ _ HM.out.cur
              have hc1 : x6.cell? ⟨g, 1, none⟩ = some (.int .i64 q.s.number) := (cell_of_row _ _ 1 _ _ _ HM.out.cur).trans rfl
              go_wp2_with fail
              clear hf1 hc1
              have HM2 := Lib.hid (HM.out.set { q.s with number := (min (wrap64 (wrap64 (q.s.number + 1) + dv)) 199) } 1 (.int .i64 (min (wrap64 (wrap64 (q.s.number + 1) + dv)) 199)) rfl rfl rfl (by have hs := HM.out.small; exact ⟨hs.prev, hs.list, hs.pins, hs.all, hs.body, hs.dig⟩))
              have HT2 : Hid (0 ≤ (q.to { q.s with number := (min (wrap64 (wrap64 (q.s.number + 1) + dv)) 199) }).s.time ∧ (q.to { q.s with number := (min (wrap64 (wrap64 (q.s.number + 1) + dv)) 199) }).s.time ≤ bt + 3 - (m : Int)) := Lib.hid (HT.out)
              replace HLG := Lib.hid (HLG.out.turn HLF.out (But.set x6 1 (.int .i64 (min (wrap64 (wrap64 (q.s.number + 1) + dv)) 199))))
              have HFC := Lib.hid (HM.out.fc HM2.out rfl rfl)
              clear HM HT
              have HM := HM2
              have HT := HT2
              clear HM2 HT2
              refine pieceEnd_normal ⟨HFC.out, ?_⟩
              clear HFC
              refine flow_done (by kernel_rfl) ?_
              generalize x6.setCell ⟨g, 1, none⟩ (.int .i64 (min (wrap64 (wrap64 (q.s.number + 1) + dv)) 199)) = x7 at *
              generalize q.to { q.s with number := (min (wrap64 (wrap64 (q.s.number + 1) + dv)) 199) } = q7 at *
              have hc2 : x7.cell? ⟨g, 2, none⟩ = some (.string q7.s.prev) := (cell_of_row _ _ 2 _ _ _ HM.out.cur).trans rfl
              by_cases hp : q7.s.prev.size = 32
              · have b0 : ((q7.s.prev.size : Int) != 32) = false := by rw [hp]; rfl
                have b1 : (q7.s.prev.size != 32) = false := by rw [hp]; rfl
                clear hp
                go_wp2_with fail
                go_meet
                exact ⟨A1, c1, l', _, rfl, hl1, Nat.le_refl _, Lib.hid ⟨HM.out, HLG.out, HLF.out⟩, HT, HTL⟩
              · have b0 : ((q7.s.prev.size : Int) != 32) = true := by rw [bne_iff_ne]; omega
                have b1 : (q7.s.prev.size != 32) = true := by rw [bne_iff_ne]; exact hp
                clear hp
                go_wp2_with fail
                clear b0 b1 hc2
                refine (ddigest_g L D t x7 HM.out.rnd.dice).mono ?_
                rintro e x8 ⟨dg, rfl, hdg, hg⟩
                have HDG := Lib.hid hdg
                replace HM := Lib.hid (HM.out.gave hg)
                replace HLG := Lib.hid (HLG.out.but hg.2 hDw)
                clear hdg hg
                have hf2 : x8.frozen? ⟨g, 2, none⟩ = false := frozen_of_row _ _ _ _ _ HM.out.cur
                have hc2 : x8.cell? ⟨g, 2, none⟩ = some (.string q7.s.prev) := (cell_of_row _ _ 2 _ _ _ HM.out.cur).trans rfl
                skip
                have HM2 := Lib.hid (HM.out.set { q7.s with prev := dg } 2 (.string dg) rfl rfl rfl (by have hs := HM.out.small; exact ⟨by show ByteArray.size _ ≤ _; rw [HDG.out]; decide, hs.list, hs.pins, hs.all, hs.body, hs.dig⟩))
                have HT2 : Hid (0 ≤ (q7.to { q7.s with prev := dg }).s.time ∧ (q7.to { q7.s with prev := dg }).s.time ≤ bt + 3 - (m : Int)) := Lib.hid (HT.out)
                replace HLG := Lib.hid (HLG.out.turn HLF.out (But.set x8 2 (.string dg)))
                clear HM HT
                have HM := HM2
                have HT := HT2
                clear HM2 HT2
                replace HM := HM
                go_wp2_with fail
                go_meet
                exact ⟨A1, c1, l', _, rfl, hl1, Nat.le_refl _, Lib.hid ⟨HM.out, HLG.out, HLF.out⟩, HT, HTL⟩
            · go_wp2_with fail
              refine (next_g L D t 3 x0 HM.out.rnd.dice (by omega) (by omega)).mono ?_
              rintro e x6 ⟨dv, rfl, hd0, hd1, hg⟩
              have HM2 := Lib.hid (HM.out.gave hg)
              replace HLG := Lib.hid (HLG.out.but hg.2 hDw)
              have HFC := Lib.hid (HM.out.fc HM2.out rfl rfl)
              clear HM hg hd0 hd1
              have HM := HM2
              clear HM2
              go_wp2_with fail
              refine pieceEnd_normal ⟨HFC.out, ?_⟩
              clear HFC
              refine flow_one (F := FC g) (fun _ _ _ => FC.trans) FC.refl 1 (by kernel_rfl) (by decide) ?_
              simp only [pick, List.getD_cons_zero, List.getD_cons_succ]
              have hc1 : x6.cell? ⟨g, 1, none⟩ = some (.int .i64 q.s.number) := (cell_of_row _ _ 1 _ _ _ HM.out.cur).trans rfl
              go_wp2_with fail
              clear hc1
              refine pieceEnd_normal ⟨FC.refl _, ?_⟩
              refine flow_reads (F := FC g) FC.refl (by kernel_rfl) [2, 5, 6, 7] (fuel := 1) (by kernel_rfl) ?_
              simp only [List.map_cons, List.map_nil, pick, List.getD_cons_zero, List.getD_cons_succ]
              repeat (go_big_quiet_step (fail))
              refine wpQuiet_nil ?_
              refine flow_one (F := FC g) (fun _ _ _ => FC.trans) FC.refl 8 (by kernel_rfl) (by decide) ?_
              simp only [pick, List.getD_cons_zero, List.getD_cons_succ]
              have hf1 : x6.frozen? ⟨g, 1, none⟩ = false := frozen_of_row _ _ _ _ _ HM.out.cur
              have hc1 : x6.cell? ⟨g, 1, none⟩ = some (.int .i64 q.s.number) := (cell_of_row _ _ 1 _ _ _ HM.out.cur).trans rfl
              go_wp2_with fail
              clear hf1 hc1
              have HM2 := Lib.hid (HM.out.set { q.s with number := (min (wrap64 (wrap64 (q.s.number + 1) + dv)) 199) } 1 (.int .i64 (min (wrap64 (wrap64 (q.s.number + 1) + dv)) 199)) rfl rfl rfl (by have hs := HM.out.small; exact ⟨hs.prev, hs.list, hs.pins, hs.all, hs.body, hs.dig⟩))
              have HT2 : Hid (0 ≤ (q.to { q.s with number := (min (wrap64 (wrap64 (q.s.number + 1) + dv)) 199) }).s.time ∧ (q.to { q.s with number := (min (wrap64 (wrap64 (q.s.number + 1) + dv)) 199) }).s.time ≤ bt + 3 - (m : Int)) := Lib.hid (HT.out)
              replace HLG := Lib.hid (HLG.out.turn HLF.out (But.set x6 1 (.int .i64 (min (wrap64 (wrap64 (q.s.number + 1) + dv)) 199))))
              have HFC := Lib.hid (HM.out.fc HM2.out rfl rfl)
              clear HM HT
              have HM := HM2
              have HT := HT2
              clear HM2 HT2
              refine pieceEnd_normal ⟨HFC.out, ?_⟩
              clear HFC
              refine flow_done (by kernel_rfl) ?_
              generalize x6.setCell ⟨g, 1, none⟩ (.int .i64 (min (wrap64 (wrap64 (q.s.number + 1) + dv)) 199)) = x7 at *
              generalize q.to { q.s with number := (min (wrap64 (wrap64 (q.s.number + 1) + dv)) 199) } = q7 at *
              have hc2 : x7.cell? ⟨g, 2, none⟩ = some (.string q7.s.prev) := (cell_of_row _ _ 2 _ _ _ HM.out.cur).trans rfl
              by_cases hp : q7.s.prev.size = 32
              · have b0 : ((q7.s.prev.size : Int) != 32) = false := by rw [hp]; rfl
                have b1 : (q7.s.prev.size != 32) = false := by rw [hp]; rfl
                clear hp
                go_wp2_with fail
                go_meet
                exact ⟨A1, c1, l', _, rfl, hl1, Nat.le_refl _, Lib.hid ⟨HM.out, HLG.out, HLF.out⟩, HT, HTL⟩
              · have b0 : ((q7.s.prev.size : Int) != 32) = true := by rw [bne_iff_ne]; omega
                have b1 : (q7.s.prev.size != 32) = true := by rw [bne_iff_ne]; exact hp
                clear hp
                go_wp2_with fail
                clear b0 b1 hc2
                refine (ddigest_g L D t x7 HM.out.rnd.dice).mono ?_
                rintro e x8 ⟨dg, rfl, hdg, hg⟩
                have HDG := Lib.hid hdg
                replace HM := Lib.hid (HM.out.gave hg)
                replace HLG := Lib.hid (HLG.out.but hg.2 hDw)
                clear hdg hg
                have hf2 : x8.frozen? ⟨g, 2, none⟩ = false := frozen_of_row _ _ _ _ _ HM.out.cur
                have hc2 : x8.cell? ⟨g, 2, none⟩ = some (.string q7.s.prev) := (cell_of_row _ _ 2 _ _ _ HM.out.cur).trans rfl
                skip
                have HM2 := Lib.hid (HM.out.set { q7.s with prev := dg } 2 (.string dg) rfl rfl rfl (by have hs := HM.out.small; exact ⟨by show ByteArray.size _ ≤ _; rw [HDG.out]; decide, hs.list, hs.pins, hs.all, hs.body, hs.dig⟩))
                have HT2 : Hid (0 ≤ (q7.to { q7.s with prev := dg }).s.time ∧ (q7.to { q7.s with prev := dg }).s.time ≤ bt + 3 - (m : Int)) := Lib.hid (HT.out)
                replace HLG := Lib.hid (HLG.out.turn HLF.out (But.set x8 2 (.string dg)))
                clear HM HT
                have HM := HM2
                have HT := HT2
                clear HM2 HT2
                replace HM := HM
                go_wp2_with fail
                go_meet
                exact ⟨A1, c1, l', _, rfl, hl1, Nat.le_refl _, Lib.hid ⟨HM.out, HLG.out, HLF.out⟩, HT, HTL⟩
          · have hf3 : x4.frozen? ⟨g, 3, none⟩ = false := frozen_of_row _ _ _ _ _ HM.out.cur
            have hc3 : x4.cell? ⟨g, 3, none⟩ = some (.int .i64 q.s.time) := (cell_of_row _ _ 3 _ _ _ HM.out.cur).trans rfl
            have HM2 := Lib.hid (HM.out.set { q.s with time := (max 0 (wrap64 (q.s.time - 30))) } 3 (.int .i64 (max 0 (wrap64 (q.s.time - 30)))) rfl rfl rfl (by have hs := HM.out.small; exact ⟨hs.prev, hs.list, hs.pins, hs.all, hs.body, hs.dig⟩))
            have HT2 : Hid (0 ≤ (q.to { q.s with time := (max 0 (wrap64 (q.s.time - 30))) }).s.time ∧ (q.to { q.s with time := (max 0 (wrap64 (q.s.time - 30))) }).s.time ≤ bt + 3 - (m : Int)) := Lib.hid (by have h := HQT.out; show 0 ≤ max 0 (wrap64 (q.s.time - 30)) ∧ max 0 (wrap64 (q.s.time - 30)) ≤ bt + 3 - (m : Int); rw [wrap64_id7 _ (by omega)]; omega)
            replace HLG := Lib.hid (HLG.out.turn HLF.out (But.set x4 3 (.int .i64 (max 0 (wrap64 (q.s.time - 30))))))
            clear HM HT
            have HM := HM2
            have HT := HT2
            clear HM2 HT2
            go_wp2_with fail
            go_meet
            exact ⟨A1, c1, l', _, rfl, hl1, Nat.le_refl _, Lib.hid ⟨HM.out, HLG.out, HLF.out⟩, HT, HTL⟩
          · have hc1 : x4.cell? ⟨g, 1, none⟩ = some (.int .i64 q.s.number) := (cell_of_row _ _ 1 _ _ _ HM.out.cur).trans rfl
            by_cases hnum : q.s.number > 0
            · have b0 : decide (q.s.number > 0) = true := decide_eq_true hnum
              have b1 : decide (0 < q.s.number) = true := decide_eq_true hnum
              go_wp2_with fail
              clear b0 b1 hnum hc1
              refine (ddigest_g L D t x4 HM.out.rnd.dice).mono ?_
              rintro e x8 ⟨dg, rfl, hdg, hg⟩
              have HDG := Lib.hid hdg
              replace HM := Lib.hid (HM.out.gave hg)
              replace HLG := Lib.hid (HLG.out.but hg.2 hDw)
              clear hdg hg
              have hf2 : x8.frozen? ⟨g, 2, none⟩ = false := frozen_of_row _ _ _ _ _ HM.out.cur
              have hc2 : x8.cell? ⟨g, 2, none⟩ = some (.string q.s.prev) := (cell_of_row _ _ 2 _ _ _ HM.out.cur).trans rfl
              skip
              have HM2 := Lib.hid (HM.out.set { q.s with prev := dg } 2 (.string dg) rfl rfl rfl (by have hs := HM.out.small; exact ⟨by show ByteArray.size _ ≤ _; rw [HDG.out]; decide, hs.list, hs.pins, hs.all, hs.body, hs.dig⟩))
              have HT2 : Hid (0 ≤ (q.to { q.s with prev := dg }).s.time ∧ (q.to { q.s with prev := dg }).s.time ≤ bt + 3 - (m : Int)) := Lib.hid (HT.out)
              replace HLG := Lib.hid (HLG.out.turn HLF.out (But.set x8 2 (.string dg)))
              clear HM HT
              have HM := HM2
              have HT := HT2
              clear HM2 HT2
              replace HM := HM
              go_wp2_with fail
              go_meet
              exact ⟨A1, c1, l', _, rfl, hl1, Nat.le_refl _, Lib.hid ⟨HM.out, HLG.out, HLF.out⟩, HT, HTL⟩
            · have b0 : decide (q.s.number > 0) = false := decide_eq_false hnum
              have b1 : decide (0 < q.s.number) = false := decide_eq_false hnum
              go_wp2_with fail
              go_meet
              exact ⟨A1, c1, l', _, rfl, hl1, Nat.le_refl _, Lib.hid ⟨HM.out, HLG.out, HLF.out⟩, HT, HTL⟩
          · by_cases hl2 : 1 < l'.length
            · have b0 : decide ((l'.length : Int) > 1) = true := decide_eq_true (by omega)
              have b1 : (1 : Int) < (l'.length : Int) := by omega
              go_wp2_with fail
              refine (next_g L D t (l'.length : Int) x4 HM.out.rnd.dice hle1 hle2).mono ?_
              rintro e x6 ⟨E0, rfl, hE0, hE1, hg⟩
              replace HM := Lib.hid (HM.out.gave hg)
              replace HLG := Lib.hid (HLG.out.but hg.2 hDw)
              clear hg b0
              obtain ⟨E, rfl⟩ : ∃ E : Nat, E0 = (E : Int) := ⟨E0.toNat, by omega⟩
              have hE : E ≤ l'.length := by omega
              have hE2 : E + 1 ≤ l'.length := by omega
              obtain ⟨A7, c7, hv7, hr7⟩ := HLG.out.own.row
              injection hv7 with hv7 _ hc7
              subst hv7 hc7
              have HLR := Lib.hid hr7; clear hr7
              go_upto_region 11 with fail
              have hs1 := fun w' => run_slice_to (P := Tryz.prog) (t := 28) Tryz.underlying28 stm_size6 (w0 := x6) HLR.out.row (i := (E : Int)) rfl hE .i64 w'
              have hs2 := fun w' => run_slice_from (P := Tryz.prog) (t := 28) Tryz.underlying28 stm_size6 (A := A1) (n := l'.length) (c := c1) (k := E + 1) (i := (E : Int) + 1) rfl hE2 .i64 w'
              refine wp_region_grow (by kernel_rfl) (Below x6.drew.heap.size) (Below.refl x6.drew.heap.size) (fun _ _ _ => Below.trans) [9] [([0, 1, 2, 4, 5, 6, 7], 3), ([], 8)] (by kernel_rfl) (by kernel_rfl) (by kernel_rfl) ?_
              simp only [List.map_cons, List.map_nil, pick, List.getD_cons_zero, List.getD_cons_succ]
              replace HM := Lib.hid (HM.out.later (Later.drew x6)); replace HLG := Lib.hid (HLG.out.but (But.of (D := D) (Later.drew x6)) hDw); replace HLR := Lib.hid (HLR.out.later (Later.drew x6))
              generalize x6.drew = u0 at *
              have HLT := Lib.hid (HLR.out.take E hE); have HLD := Lib.hid (HLR.out.drop (E + 1) hE2)
              have hk1 : (l'.take E).length = E := by rw [List.length_take]; omega
              have hk2 : (l'.drop (E + 1)).length = l'.length - (E + 1) := List.length_drop
              have HSUB : Hid (∀ p, p ∈ l'.take E ++ l'.drop (E + 1) → p ∈ l') := Lib.hid fun p hp => by
                rcases List.mem_append.1 hp with hp | hp
                · exact List.mem_of_mem_take hp
                · exact List.mem_of_mem_drop hp
              generalize dropA A1 c1 (E + 1) 13 = AD at hs2 HLD
              generalize l'.take E = l1 at *
              generalize l'.drop (E + 1) = l2 at *
              refine wpGrow_cons ?_
              repeat (go_big_quiet_step (fail))
              refine wpQuiet_nil ?_
              clear hs1 hs2
              go_wp2_with (at_builtin; go_must (refine wpList_app u0 rfl (.const (.slice none 0 0)) (.tmp 40) 28 28 58 rfl u0.heap.size Tryz.underlying28 stm_info rfl _ 0 [] (World.ownsRow_nil _ _ _ _) rfl _ E (plsC l1) (Row.src HLT.out.row Tryz.underlying28 (plsC_one _)) rfl (by unfold maxLen; omega) (by omega) (Nat.le_refl _) ?_); intro v1 z1 ho hb; rw [Nat.zero_add, List.nil_append, ← hk1] at ho; have HO2 : Hid (LOwn z1 u0.heap.size v1 l1) := Lib.hid ⟨ho, fun r hr => ⟨(HLT.out.ok r hr).later hb, (HLT.out.ok r hr).clear (own_ge ho)⟩⟩; have HU := Lib.hid hb; clear ho hb)
              refine pieceEnd_normal ⟨HU.out, ?_⟩
              refine wpGrow_cons ?_
              refine wpQuiet_nil ?_
              have HD4 := Lib.hid (HLD.out.later HU.out)
              have HC4 : Hid (∀ x ∈ l2, PlOk z1 x ∧ Clear v1 x) := Lib.hid fun x hx => ⟨HD4.out.ok x hx, (HLD.out.ok x hx).clear (own_ge HO2.out.own)⟩
              go_wp2_with (at_builtin; go_must (refine wpList_app2 z1 rfl (.tmp 41) (.tmp 45) 28 28 58 rfl u0.heap.size Tryz.underlying28 stm_info rfl _ l1.length _ HO2.out.own rfl _ (l'.length - (E + 1)) (plsC l2) (Row.src HD4.out.row Tryz.underlying28 (plsC_one _)) rfl (by unfold maxLen; omega) (by omega) HU.out.size ?_); intro v5 z5 ho hb hkp hv; rw [← hk2] at ho; have HO6 := Lib.hid (HO2.out.app (m := l2) HC4.out ho hkp hv); have HF : Hid (Below u0.heap.size z1 z5) := Lib.hid hb; replace HU := Lib.hid (HU.out.trans hb); clear ho hb hkp hv)
              refine pieceEnd_normal ⟨HF.out, ?_⟩
              clear HF HD4 HC4 HO2
              refine wpGrow_nil ?_
              repeat (go_big_quiet_step (fail))
              refine wpQuiet_nil ?_
              obtain ⟨A5, c5, hv5, -⟩ := HO6.out.row
              subst hv5
              have hgu : g < u0.heap.size := HM.out.lt
              have hwu : w.heap.size ≤ u0.heap.size := by omega
              have HNF : Hid (LFree g (.slice A5 (l1 ++ l2).length c5) (l1 ++ l2)) := Lib.hid ⟨fun e => by have := own_ge HO6.out.own _ e; omega, fun p hp => HLF.out.2 p (HSUB.out p hp)⟩
              have HNG : Hid (LGot z5 w.heap.size (.slice A5 (l1 ++ l2).length c5) (l1 ++ l2)) := Lib.hid ⟨HO6.out.mono hwu, fun p hp => HLG.out.hi p (HSUB.out p hp), fun p hp => HLG.out.small p (HSUB.out p hp)⟩
              have hnl : (l1 ++ l2).length = l'.length - 1 := by rw [List.length_append, hk1, hk2]; omega
              have HNT : Hid (TimL (bt + 2 - (m : Int)) (l1 ++ l2)) := Lib.hid fun p hp => HTL.out p (HSUB.out p hp)
              replace HM := Lib.hid (HM.out.later HU.out)
              have HNL := Lib.hid hnl; clear hnl
              clear HLG HLF HO6 HU HLT HLD HLR
              go_wp2_with fail
              go_meet
              exact ⟨A5, c5, l1 ++ l2, _, rfl, by rw [HNL.out]; omega, by rw [HNL.out]; omega, Lib.hid ⟨HM.out, HNG.out, HNF.out⟩, HT, HNT⟩
            · have b0 : decide ((l'.length : Int) > 1) = false := decide_eq_false (by omega)
              have b1 : ¬ (1 : Int) < (l'.length : Int) := by omega
              have b2 : ¬ 1 < l'.length := hl2
              go_wp2_with fail
              go_meet
              exact ⟨A1, c1, l', _, rfl, hl1, Nat.le_refl _, Lib.hid ⟨HM.out, HLG.out, HLF.out⟩, HT, HTL⟩
        case rest =>
          obtain ⟨A2, c2, l2, p2, rfl, hk1, hk2, HQ2, HT2, HTL2⟩ := hcut
          have HM := Lib.hid HQ2.out.1; have HLG := Lib.hid HQ2.out.2.1; have HLF := Lib.hid HQ2.out.2.2
          clear HQ2
          go_wp2_with (refine wpList_load_row rfl 58 (.tmp 7) rfl g rfl 58 p2.arr (0, 0) _ HM.out.cur Tryz.underlying58 rfl p2.info ?_)
          refine (sealP_any p2 wc HM.out.ok HM.out.small).mono ?_
          rintro e y1 ⟨r, rfl, hrs, hro, hna, hnb, hb⟩
          have HRS : Hid (Small r.s) := Lib.hid (by rw [hrs]; exact seal_small7 HM.out.small)
          have HRT2 : Hid (0 ≤ r.s.time ∧ r.s.time ≤ bt + 3 - (m : Int)) := Lib.hid (by rw [hrs]; exact HT2.out)
          have HRO := Lib.hid hro
          have hgs : g < wc.heap.size := HM.out.lt
          have hws : wr.heap.size ≤ wc.heap.size := HM.out.rnd.but.size
          have HOF : Hid (OffB g r) := Lib.hid (OffB.high hgs hna hnb)
          have HRH : Hid (Hi wr.heap.size r) := Lib.hid ⟨fun ad e => Nat.le_trans hws (hna ad e), fun ad e => Nat.le_trans hws (hnb ad e)⟩
          have HCL := Lib.hid (clear_new (q := r) hna hnb (own_lt HLG.out.own.own))
          have HM1 := Lib.hid (HM.out.later hb); have HLG1 := Lib.hid (HLG.out.but (But.of (D := D) hb) hDw)
          clear hrs hro hna hnb hb HM HLG hgs hws
          go_upto_region 25 with (refine wpList_store_row rfl 58 (.tmp 7) (.tmp 97) rfl g r.arr rfl rfl 58 _ HM1.out.cur r.info rfl r.one ?_)
          have HM := Lib.hid (HM1.out.row r HRO.out HOF.out HRH.out HRS.out)
          have HLG := Lib.hid (HLG1.out.turn HLF.out (But.of_row g y1 r.arr))
          clear HM1 HLG1 HRO
          generalize y1.setRow g r.arr = y2 at *
          go_wp2_with (refine wpList_load_row rfl 58 (.tmp 7) rfl g rfl 58 r.arr (0, 0) _ HM.out.cur Tryz.underlying58 rfl r.info ?_)
          refine (checkP_any r y2 HM.out.ok HRS.out).mono ?_
          rintro e y3 ⟨rfl, hb⟩
          replace HM := Lib.hid (HM.out.later hb); replace HLG := Lib.hid (HLG.out.but (But.of (D := D) hb) hDw)
          clear hb
          generalize checkV r.s = cv
          have HRD : Hid (Rnd L D t w wr) := Lib.hid HQ.out.2
          clear HQ
          by_cases hcv : cv = 0
          · have b0 : (cv == 0) = true := by rw [hcv]; rfl
            clear hcv
            go_wp2_with fail
            refine (one_g L D t 3 y3 HM.out.rnd.dice (by omega) (by omega)).mono ?_
            rintro e y4 ⟨rb, rfl, hg⟩
            replace HM := Lib.hid (HM.out.gave hg); replace HLG := Lib.hid (HLG.out.but hg.2 hDw)
            clear hg b0
            have hm7 : 1 ≤ m := hm0
            cases rb
            · have hvs : r.arr.size = 13 := rfl
              have hln7 : l2.length ≤ 1000 := by omega
              go_wp2_with (first | (refine wpList_load_row rfl 58 (.tmp 7) rfl g rfl 58 r.arr (0, 0) _ HM.out.cur Tryz.underlying58 rfl r.info ?_) | (at_builtin; (first | rw [fold13] | (rw [← hvs, fold13])); go_must (refine wpList_app_newK y4 rfl (.tmp 106) (.tmp 108) 28 58 rfl w.heap.size Tryz.underlying28 stm_info rfl _ l2.length (plsC l2) HLG.out.own.own rfl 1 r.arr rfl r.ones rfl rfl (by unfold maxLen; omega) (by omega) (Nat.le_trans hwr HM.out.rnd.but.size) ?_); intro x3 z3 ho hb hk1 hk2; rw [show r.arr.toList = plsC [r] from rfl] at ho; have HO3 := Lib.hid (HLG.out.own.app (m := [r]) (fun s hs => by rw [List.mem_singleton.1 hs]; exact ⟨HM.out.ok, HCL.out⟩) ho hk1 hk2); have HB3 := Lib.hid hb; clear ho hb hk1 hk2))
              have HGT : Hid (LGot z3 w.heap.size x3 (l2 ++ [r])) := Lib.hid ⟨HO3.out, fun s hs => by
                rcases List.mem_append.1 hs with hs | hs
                · exact HLG.out.hi s hs
                · rw [List.mem_singleton.1 hs]; exact HRH.out.mono hwr, fun s hs => by
                rcases List.mem_append.1 hs with hs | hs
                · exact HLG.out.small s hs
                · rw [List.mem_singleton.1 hs]; exact HRS.out⟩
              have HRT : Hid (Rnd L D t w z3) := Lib.hid ⟨(HRD.out.but.trans HM.out.rnd.but).grow HB3.out, by obtain ⟨k, hk⟩ := HM.out.rnd.dice; exact ⟨k, hk.below HB3.out hDw⟩⟩
              refine ⟨⟨m - 1, l2 ++ [r], by go_num, by rw [List.length_append]; omega, by rw [List.length_append]; show l2.length + 1 + (m - 1) ≤ n + 2; omega, Lib.hid ((HTL2.out.mono (by omega)).app (TimL.one (by have h := HRT2.out; omega))), Lib.hid ⟨HGT.out, HRT.out⟩⟩, by simp [intOf]; omega⟩
            · go_wp2_with fail
              refine ⟨⟨m - 1, l2, by go_num, hk1, by omega, Lib.hid (HTL2.out.mono (by omega)), Lib.hid ⟨HLG.out, HRD.out.but.trans HM.out.rnd.but, HM.out.rnd.dice⟩⟩, by simp [intOf]; omega⟩
          · have b0 : (cv == 0) = false := by rw [beq_eq_false_iff_ne]; exact hcv
            clear hcv
            go_wp2_with fail
            refine ⟨⟨m - 1, l2, by go_num, hk1, by omega, Lib.hid (HTL2.out.mono (by omega)), Lib.hid ⟨HLG.out, HRD.out.but.trans HM.out.rnd.but, HM.out.rnd.dice⟩⟩, by simp [intOf]; omega⟩
      · have hm2 : ¬ (0 : Int) < (m : Int) := by omega
        go_wp2_with fail
        go_ret
        exact ⟨_, rfl, l', HQ.out.1, by omega, ⟨HQ.out.2.dice, HQ.out.2.but⟩, HTL.out.mono (by omega)⟩
end Go.Proofs.YtjmapbaofpilaaaGreat
