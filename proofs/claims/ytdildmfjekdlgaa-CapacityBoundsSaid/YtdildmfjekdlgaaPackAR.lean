import Derived.Test.YtdildmfjekdlgaaPackAQ
import Derived.Test.YtdildmfjekdlgaaPackAP
import Derived.Shelf.Abstract
import Derived.Shelf.Bits.Mul64
import Derived.Test.YtdildmfjekdlgaaGWithP
import Derived.Lib.AppendZerosOnto
/- The walks of slices.Index and Contains over numbers, and of the function literal that tells first places. -/
namespace Go.Proofs.Ytdildmfjekdlgaa
open Go.RowKit
/-- Where a number stands first in a list, counted from i; -1 if it is not there. -/
def idxI : List Int → Int → Nat → Int
  | [], _, _ => -1
  | a :: l, x, i => if x = a then (i : Int) else idxI l x (i + 1)
theorem idxI_has (x : Int) : ∀ (l : List Int) (i : Nat), decide (0 ≤ idxI l x i) = hasI l x
  | [], _ => rfl
  | a :: l, i => by
    unfold idxI hasI
    by_cases h : x = a
    · rw [if_pos h, if_pos h.symm]; exact decide_eq_true (Int.natCast_nonneg _)
    · rw [if_neg h, if_neg (fun q => h q.symm)]; exact idxI_has x l (i + 1)
set_option maxRecDepth 100000 in
set_option maxHeartbeats 4000000 in
theorem index_anyI (A : Option Addr) (n c : Nat) (l : List Int) (x : Int) (w : World) (hl : IRow w A n c l) (hn : n ≤ 100000) : Calls Try.prog 57 #[.slice A n c, .int .i64 x] w (SaysL (.int .i64 (idxI l x 0)) w) := by
  have HL := Lib.hid hl; have HLN : Hid (l.length = n) := Lib.hid hl.len
  clear hl
  go_enter Try.func57, Try.ntmps57
  go_wp2_with fail
  go_loopw [8] (fun i wr => ∃ j : Nat, j ≤ n ∧ i = .int .i64 j ∧ Hid (idxI (l.drop j) x j = idxI l x 0 ∧ Below w.heap.size w wr)) (fun i _ => n - (intOf i).toNat)
  case atStart => exact ⟨0, Nat.zero_le _, rfl, Lib.hid ⟨rfl, Below.refl _ _⟩⟩
  case round =>
    obtain ⟨j, hj, rfl, HQ⟩ := hrel
    by_cases hlt : j < n
    · have hlt2 : (j : Int) < (n : Int) := by omega
      obtain ⟨b, off, hA, hc⟩ := IRow.cell (HL.out.later HQ.out.2) j hlt
      subst hA
      have HD : Hid (idxI (l.drop j) x j = if x = l.getD j 0 then (j : Int) else idxI (l.drop (j + 1)) x (j + 1)) := Lib.hid (by
        rw [List.drop_eq_getElem_cons (by rw [HLN.out]; exact hlt), idxI, List.getD_eq_getElem?_getD, List.getElem?_eq_getElem (by rw [HLN.out]; exact hlt)]; rfl)
      generalize l.getD j 0 = a at *
      by_cases hax : x = a
      · have b0 : (x == a) = true := by rw [hax]; simp
        have HT : Hid (idxI l x 0 = (j : Int)) := Lib.hid (by rw [← HQ.out.1, HD.out, if_pos hax])
        clear hax
        go_wp2_with fail
        go_ret
        exact ⟨by rw [HT.out]; rfl, HQ.out.2⟩
      · have b0 : (x == a) = false := by rw [beq_eq_false_iff_ne]; exact hax
        have HT : Hid (idxI (l.drop (j + 1)) x (j + 1) = idxI l x 0) := Lib.hid (by rw [← HQ.out.1, HD.out, if_neg hax])
        clear hax
        go_wp2_with fail
        exact ⟨⟨j + 1, hlt, by go_num, Lib.hid ⟨HT.out, HQ.out.2⟩⟩, by simp [intOf]; omega⟩
    · have hlt2 : ¬ (j : Int) < (n : Int) := by omega
      have HT : Hid (idxI l x 0 = -1) := Lib.hid (by rw [← HQ.out.1, List.drop_eq_nil_of_le (by rw [HLN.out]; omega)]; rfl)
      go_wp2_with fail
      go_ret
      exact ⟨by rw [HT.out]; rfl, HQ.out.2⟩
set_option maxRecDepth 100000 in
set_option maxHeartbeats 4000000 in
theorem contains_anyI (A : Option Addr) (n c : Nat) (l : List Int) (x : Int) (w : World) (hl : IRow w A n c l) (hn : n ≤ 100000) : Calls Try.prog 38 #[.slice A n c, .int .i64 x] w (SaysL (.bool (hasI l x)) w) := by
  have HI := Lib.hid (index_anyI A n c l x w hl hn)
  have HV := Lib.hid (idxI_has x l 0)
  clear hl
  generalize idxI l x 0 = q at *
  generalize hasI l x = r at *
  go_enter Try.func38, Try.ntmps38
  go_wp2_with fail
  refine HI.out.mono ?_
  rintro e w1 ⟨rfl, hb⟩
  have HB := Lib.hid hb
  have hd : decide (0 ≤ q) = r := HV.out
  clear hb HI
  cases r
  · go_wp2_with fail
    go_ret
    exact ⟨rfl, HB.out⟩
  · go_wp2_with fail
    go_ret
    exact ⟨rfl, HB.out⟩
set_option maxRecDepth 100000 in
set_option maxHeartbeats 4000000 in
theorem first1_any (G : Gr) (A : Option Addr) (n c : Nat) (B : Option Addr) (m k : Nat) (A2 : Option Addr) (n2 c2 : Nat) (seeds : List Int) (x : Int) (g1 g2 : Nat) (w : World) (hg1 : w.heap[g1]? = some (.cells #[.int .i64 G.sz, .slice A n c, .slice B m k] 31)) (hg2 : w.heap[g2]? = some (.cells #[.slice A2 n2 c2] 22 (0, 0))) (hb : IRow w B m k G.gn) (hs : IRow w A2 n2 c2 seeds) (hm : m ≤ 100000) (hn : n2 ≤ 100000) :
    Calls Try.prog 68 #[.int .i64 x, .pointer (some ⟨g2, 0, none⟩), .pointer (some ⟨g1, 0, none⟩)] w (SaysL (.bool (seedB G.gn seeds x)) w) := by
  have HG := Lib.hid hg1
  have HC1 := Lib.hid (contains_anyI A2 n2 c2 seeds x w hs hn)
  have HC2 : Hid (∀ y, Below w.heap.size w y → Calls Try.prog 38 #[.slice B m k, .int .i64 x] y (SaysL (.bool (hasI G.gn x)) y)) := Lib.hid fun y hy => contains_anyI B m k G.gn x y (hb.later hy) hm
  have HV : Hid (seedB G.gn seeds x = (hasI seeds x && !hasI G.gn x)) := Lib.hid rfl
  have hc : w.cell? ⟨g2, 0, none⟩ = some (.slice A2 n2 c2) := (cell_of_row _ _ 0 _ _ _ hg2).trans rfl
  generalize seedB G.gn seeds x = r at *
  generalize hasI seeds x = a at *
  generalize hasI G.gn x = b at *
  clear hg1 hg2 hb hs
  go_enter Try.func68, Try.ntmps68
  go_wp2_with fail
  refine HC1.out.mono ?_
  rintro e w1 ⟨rfl, hb⟩
  have HB := Lib.hid hb
  have HG1 : Hid (w1.heap[g1]? = _) := Lib.hid ((hb.block _ (Array.getElem?_eq_some_iff.1 HG.out).1).trans HG.out)
  clear hb HC1 HG hc
  cases a
  · have HR : Hid (r = false) := Lib.hid (by rw [HV.out]; rfl)
    go_wp2_with fail
    go_ret
    exact ⟨by rw [HR.out]; rfl, HB.out⟩
  · have hc2 : w1.cell? ⟨g1, 2, none⟩ = some (.slice B m k) := (cell_of_row _ _ 2 _ _ _ HG1.out).trans rfl
    go_wp2_with fail
    refine (HC2.out w1 HB.out).mono ?_
    rintro e w2 ⟨rfl, hb⟩
    have HB2 := Lib.hid (HB.out.trans (hb.mono HB.out.size))
    clear hb HC2 hc2
    cases b
    · have HR : Hid (r = true) := Lib.hid (by rw [HV.out]; rfl)
      go_wp2_with fail
      go_ret
      exact ⟨by rw [HR.out]; rfl, HB2.out⟩
    · have HR : Hid (r = false) := Lib.hid (by rw [HV.out]; rfl)
      go_wp2_with fail
      go_ret
      exact ⟨by rw [HR.out]; rfl, HB2.out⟩
end Go.Proofs.Ytdildmfjekdlgaa
/- The walk of distance's first. -/
namespace Go.Proofs.Ytdildmfjekdlgaa
open Go.RowKit
/-- The first places, ascending. -/
def firstS (sd : Int → Bool) : Nat → List Int
  | 0 => []
  | n + 1 => firstS sd n ++ (if sd (n : Int) then [(n : Int)] else [])
theorem firstS_mem (sd : Int → Bool) (k : Int) : ∀ z : Nat, k ∈ firstS sd z ↔ 0 ≤ k ∧ k < z ∧ sd k = true
  | 0 => by simp [firstS]; intros; omega
  | z + 1 => by
    unfold firstS
    rw [List.mem_append, firstS_mem sd k z]
    constructor
    · rintro (h | h)
      · exact ⟨h.1, by omega, h.2.2⟩
      · split at h
        · rename_i hs
          rw [List.mem_singleton.1 h]
          exact ⟨by omega, by omega, hs⟩
        · exact nomatch h
    · rintro ⟨h0, h1, h2⟩
      by_cases hk : k = z
      · right
        rw [← hk, if_pos h2]
        exact List.mem_singleton_self _
      · exact .inl ⟨h0, by omega, h2⟩
theorem firstS_asc (sd : Int → Bool) : ∀ z : Nat, (firstS sd z).Pairwise (· < ·)
  | 0 => List.Pairwise.nil
  | z + 1 => by
    unfold firstS
    refine List.pairwise_append.2 ⟨firstS_asc sd z, by split <;> simp, fun a ha b hb => ?_⟩
    have h1 := (firstS_mem sd a z).1 ha
    split at hb
    · rw [List.mem_singleton.1 hb]; exact h1.2.1
    · exact nomatch hb
theorem firstS_len (sd : Int → Bool) : ∀ z : Nat, (firstS sd z).length ≤ z
  | 0 => Nat.le_refl _
  | z + 1 => by
    unfold firstS
    rw [List.length_append]
    have := firstS_len sd z
    split <;> simp <;> omega
theorem firstS_snoc (sd : Int → Bool) (z : Nat) : firstS sd (z + 1) = firstS sd z ++ (if sd (z : Int) then [(z : Int)] else []) := rfl
set_option maxRecDepth 100000 in
set_option maxHeartbeats 4000000 in
theorem first_any (G : Gr) (v : Value) (A2 : Option Addr) (n2 c2 : Nat) (seeds : List Int) (w : World) (h : GHold w G v) (hgd : Good11 G) (hs : IRow w A2 n2 c2 seeds) (hn2 : n2 ≤ 100000) :
    Calls Try.prog 64 #[v, .slice A2 n2 c2] w fun e w' => ∃ v', e = .returned v' ∧ w'.ownsRow w.heap.size 3 1 v' (firstS (seedB G.gn seeds) G.sz.toNat).length (intsV (firstS (seedB G.gn seeds) G.sz.toNat)) ∧ Below w.heap.size w w' := by
  obtain ⟨A, n, c, B, m, k, rfl, h1, h2⟩ := h
  have hm : m ≤ 100000 := by rw [← h2.len]; exact hgd.few.2
  have hlo := hgd.lo
  have hhi := hgd.hi
  have HB0 : Hid (Below w.heap.size w ((w.alloc (.cells #[.int .i64 G.sz, .slice A n c, .slice B m k] 31)).alloc (.cells #[.slice A2 n2 c2] 22))) := Lib.hid ((one_new w _).trans ((one_new _ _).mono (by simp)))
  have HX : Hid (((w.alloc (.cells #[.int .i64 G.sz, .slice A n c, .slice B m k] 31)).alloc (.cells #[.slice A2 n2 c2] 22)).heap[w.heap.size]? = some (.cells #[.int .i64 G.sz, .slice A n c, .slice B m k] 31 (0, 0))) := Lib.hid ((Below.heap_alloc _ _ _ (by simp)).trans (heap_alloc_new _ _))
  have HY : Hid (((w.alloc (.cells #[.int .i64 G.sz, .slice A n c, .slice B m k] 31)).alloc (.cells #[.slice A2 n2 c2] 22)).heap[w.heap.size + 1]? = some (.cells #[.slice A2 n2 c2] 22 (0, 0))) := Lib.hid (heap_alloc2_new _ _ _)
  have HB1 := Lib.hid (h2.later HB0.out); have HS1 := Lib.hid (hs.later HB0.out)
  obtain ⟨z, hz⟩ : ∃ z : Nat, G.sz = (z : Int) := ⟨G.sz.toNat, by omega⟩
  have HZ : Hid (G.sz.toNat = z) := Lib.hid (by omega)
  have HGZ : Hid (G.sz = (z : Int)) := Lib.hid hz
  have hz64 : z ≤ 64 := by omega
  clear hz
  rw [HZ.out]
  have HFC : Hid (∀ (y : World) (x : Int), Below ((w.alloc (.cells #[.int .i64 G.sz, .slice A n c, .slice B m k] 31)).alloc (.cells #[.slice A2 n2 c2] 22)).heap.size ((w.alloc (.cells #[.int .i64 G.sz, .slice A n c, .slice B m k] 31)).alloc (.cells #[.slice A2 n2 c2] 22)) y → Calls Try.prog 68 #[.int .i64 x, .pointer (some ⟨w.heap.size + 1, 0, none⟩), .pointer (some ⟨w.heap.size, 0, none⟩)] y (SaysL (.bool (seedB G.gn seeds x)) y)) := Lib.hid fun y x hy => first1_any G A n c B m k A2 n2 c2 seeds x _ _ y ((hy.block _ (by simp; omega)).trans HX.out) ((hy.block _ (by simp)).trans HY.out) (HB1.out.later hy) (HS1.out.later hy) hm hn2
  have HEN : Hid (∀ args w, (callFunc 68 args).run Try.prog w = .ok (.enter 68 args) w) := Lib.hid (enters_of Try.func68 (by kernel_rfl) rfl)
  have HSZ : Hid (w.heap.size ≤ ((w.alloc (.cells #[.int .i64 G.sz, .slice A n c, .slice B m k] 31)).alloc (.cells #[.slice A2 n2 c2] 22)).heap.size) := Lib.hid (by simp; omega)
  generalize seedB G.gn seeds = sd at *
  clear h1 h2 hs HB1 HS1 HY
  go_enter Try.func64, Try.ntmps64
  go_upto_region 1 with fail
  generalize ((w.alloc (.cells #[.int .i64 G.sz, .slice A n c, .slice B m k] 31)).alloc (.cells #[.slice A2 n2 c2] 22)) = y0 at *
  have hc0 : y0.cell? ⟨w.heap.size, 0, none⟩ = some (.int .i64 G.sz) := (cell_of_row _ _ 0 _ _ _ HX.out).trans rfl
  rw [HGZ.out] at hc0
  go_wp2_with fail
  clear hc0 HX
  go_loopw [6, 11] (fun v i wr => ∃ j : Nat, j ≤ z ∧ i = .int .i64 j ∧ Hid (wr.ownsRow y0.heap.size 3 1 v (firstS sd j).length (intsV (firstS sd j)) ∧ Below y0.heap.size y0 wr)) (fun _ i _ => z - (intOf i).toNat)
  case atStart => exact ⟨0, Nat.zero_le _, rfl, Lib.hid ⟨World.ownsRow_nil _ _ _ _, Below.refl _ _⟩⟩
  case round =>
    obtain ⟨j, hj, rfl, HQ⟩ := hrel
    by_cases hlt : j < z
    · have hlt2 : (j : Int) < (z : Int) := by omega
      have HO := Lib.hid HQ.out.1; have HB := Lib.hid HQ.out.2
      have HST := Lib.hid (firstS_snoc sd j)
      have HLE := Lib.hid (firstS_len sd j)
      have HF := Lib.hid (HFC.out wr (j : Int) HB.out)
      generalize sd (j : Int) = s at *
      clear HQ
      generalize firstS sd j = U at *
      go_wp2_with fail
      refine HF.out.mono ?_
      rintro e w1 ⟨rfl, hb⟩
      replace HO := Lib.hid (own_later HO.out hb)
      replace HB := Lib.hid (HB.out.trans (hb.mono HB.out.size))
      clear hb HF
      cases s
      · rw [if_neg (by decide), List.append_nil] at HST
        go_wp2_with fail
        exact ⟨⟨j + 1, hlt, by go_num, Lib.hid ⟨by rw [HST.out]; exact HO.out, HB.out⟩⟩, by simp [intOf]; omega⟩
      · rw [if_pos rfl] at HST
        have hgl := HLE.out
        have hsz : y0.heap.size ≤ w1.heap.size := HB.out.size
        obtain ⟨A1, c1, hv, -⟩ := Row.of_own HO.out
        subst hv
        go_wp2_with (at_builtin; go_must (refine wpList_app_new w1 rfl (.tmp 17) (.tmp 19) 22 3 rfl y0.heap.size Try.underlying22 i64_info rfl _ U.length (intsV U) HO.out rfl 1 #[.int .i64 (j : Int)] rfl (by simp [Value.oneCell']) rfl rfl (by unfold maxLen; omega) (by omega) hsz ?_); intro v3 w3 ho3 hb3; have HO3 := Lib.hid ho3; have HB3 := Lib.hid (HB.out.trans hb3); clear ho3 hb3)
        exact ⟨⟨j + 1, hlt, by go_num, Lib.hid (by rw [HST.out, List.length_append, intsV_app]; exact ⟨HO3.out, HB3.out⟩)⟩, by simp [intOf]; omega⟩
    · have hlt2 : ¬ (j : Int) < (z : Int) := by omega
      have hjz : j = z := by omega
      subst hjz
      have HO := Lib.hid HQ.out.1; have HB := Lib.hid HQ.out.2
      clear HQ
      obtain ⟨A1, c1, hv, -⟩ := Row.of_own HO.out
      subst hv
      go_wp2_with fail
      go_ret
      exact ⟨_, rfl, own_mono HO.out HSZ.out, HB0.out.trans (HB.out.mono HSZ.out)⟩
end Go.Proofs.Ytdildmfjekdlgaa
/- A queue in a slice: numbers in a block of one's own, taken from the front and appended; numbers in a block that is known whole. Plain facts. -/
namespace Go.Proofs.Ytdildmfjekdlgaa
open Go.RowKit Go
/-- A slice of numbers that lies, from some place on, in a block of one's own. -/
def QOwn (w : World) (B : Nat) (v : Value) (n : Nat) (xs : List Value) : Prop :=
  xs.length = n ∧ ((v = .slice none 0 0 ∧ n = 0) ∨ ∃ g off cap cur, v = .slice (some ⟨g, off, none⟩) n cap ∧ B ≤ g ∧ w.heap[g]? = some (.cells cur 3 (0, 0)) ∧ n ≤ cap ∧ cap ≤ maxLen ∧ off + cap ≤ cur.size ∧ (cur.toList.drop off).take n = xs)
theorem QOwn.of_own {w : World} {B : Nat} {v : Value} {n : Nat} {xs : List Value} (h : w.ownsRow B 3 1 v n xs) : QOwn w B v n xs := by
  refine ⟨by have := h.1; omega, ?_⟩
  rcases h.2 with h1 | ⟨g, cap, cur, rfl, h1, h2, h3, h4, h5, h6⟩
  · exact .inl h1
  · exact .inr ⟨g, 0, cap, cur, rfl, h1, h2, h3, h4, by omega, by rw [List.drop_zero, ← h6, Nat.mul_one]⟩
theorem QOwn.row {w : World} {B : Nat} {v : Value} {n : Nat} {xs : List Value} (h : QOwn w B v n xs) : ∃ A c, v = .slice A n c ∧ Row w A n c 1 xs := by
  obtain ⟨hl, ⟨rfl, rfl⟩ | ⟨g, off, cap, cur, rfl, hB, hg, hn, hc, hs, ht⟩⟩ := h
  · have : xs = [] := List.eq_nil_of_length_eq_zero hl
    subst this
    exact ⟨none, 0, rfl, Row.nilRow w 1⟩
  · refine ⟨_, _, rfl, ⟨by omega, hn, fun h => (by cases h), fun ad hA _ => ?_⟩⟩
    injection hA with hA
    subst hA
    refine ⟨g, off, rfl, fun i hi => ?_⟩
    rw [cell_of_row _ _ _ _ _ _ hg, ← ht, List.getElem?_take, if_pos (by omega), List.getElem?_drop, Array.getElem?_toList]
theorem QOwn.lt {w : World} {B : Nat} {v : Value} {n : Nat} {xs : List Value} (h : QOwn w B v n xs) : ∀ k, v.ownBlock = some k → B ≤ k ∧ k < w.heap.size := by
  intro k hk
  obtain ⟨hl, ⟨rfl, rfl⟩ | ⟨g, off, cap, cur, rfl, hB, hg, -⟩⟩ := h
  · cases hk
  · have e : g = k := by injection hk
    subst e
    exact ⟨hB, (Array.getElem?_eq_some_iff.1 hg).1⟩
theorem QOwn.keep {w w' : World} {B : Nat} {v : Value} {n : Nat} {xs : List Value} (h : QOwn w B v n xs) (hk : ∀ k, v.ownBlock = some k → w'.heap[k]? = w.heap[k]?) : QOwn w' B v n xs := by
  obtain ⟨hl, h1 | ⟨g, off, cap, cur, rfl, hB, hg, r⟩⟩ := h
  · exact ⟨hl, .inl h1⟩
  · exact ⟨hl, .inr ⟨g, off, cap, cur, rfl, hB, (hk g rfl).trans hg, r⟩⟩
/-- The queue without its first number. -/
theorem QOwn.tail {w : World} {B : Nat} {A : Option Addr} {n c : Nat} {x : Value} {xs : List Value} (h : QOwn w B (.slice A (n + 1) c) (n + 1) (x :: xs)) : QOwn w B (.slice (dropA A c 1 1) n (c - 1)) n xs ∧ (Value.slice (dropA A c 1 1) n (c - 1)).ownBlock = (Value.slice A (n + 1) c).ownBlock := by
  obtain ⟨hl, ⟨h1, h2⟩ | ⟨g, off, cap, cur, h1, hB, hg, hn, hc, hs, ht⟩⟩ := h
  · omega
  · injection h1 with h1 h2 h3
    subst h1 h3
    have hl2 : xs.length = n := by simpa using hl
    unfold dropA
    split
    · rename_i hc1
      have hn0 : n = 0 := by omega
      have hx : xs = [] := List.eq_nil_of_length_eq_zero (by omega)
      subst hn0 hx
      refine ⟨⟨rfl, .inr ⟨g, off, c - 1, cur, rfl, hB, hg, Nat.zero_le _, by omega, by omega, rfl⟩⟩, rfl⟩
    · refine ⟨⟨hl2, .inr ⟨g, off + 1, c - 1, cur, by rw [Option.map_some, Addr.add_lit], hB, hg, by omega, by omega, by omega, ?_⟩⟩, rfl⟩
      have e : cur.toList.drop (off + 1) = (cur.toList.drop off).drop 1 := by rw [List.drop_drop]
      rw [e]
      have e2 : (List.take n (List.drop 1 (List.drop off cur.toList))) = ((List.drop off cur.toList).take (n + 1)).drop 1 := by rw [List.drop_take]; rfl
      rw [e2, ht]
      rfl
section
variable {P : Program}
theorem run_appQ (w : World) (B : Nat) (t tx ty : TypeId) (i : TypeInfo) (z : Value) (bytes : Nat) (ht : P.underlying t = some (.slice 3)) (hi : P.info? 3 = some i) (hz : i.zero = some z)
    (hsize : i.size = 1) (hby : i.bytes = bytes) (hzs : z.cells.size = 1)
    (v : Value) (n : Nat) (xs : List Value) (hq : QOwn w B v n xs) (x : Value) (m : Nat) (news : List Value) (hs : Src P 1 tx x m news w)
    (h63 : n + m ≤ maxLen) (hbytes : (n + m) * bytes ≤ 140737488355328) (hbase : B ≤ w.heap.size) :
    ∃ v' w', (Builtin.append_ #[t, tx] ty #[v, x]).run P w = .ok v' w' ∧ QOwn w' B v' (n + m) (xs ++ news) ∧ w.grownBy w' v.ownBlock ∧ (v'.ownBlock = v.ownBlock ∨ v'.ownBlock = some w.heap.size) := by
  obtain ⟨hl, ⟨rfl, rfl⟩ | ⟨g, off, cap, cur, rfl, hB, hg, hnc, hcm, hcs, htake⟩⟩ := hq
  · have hx : xs = [] := List.eq_nil_of_length_eq_zero hl
    subst hx
    obtain ⟨v', w', h1, h2, h3, h4⟩ := run_app w B t tx ty 3 i z 1 bytes ht hi hz hsize hby hzs (.slice none 0 0) 0 [] (World.ownsRow_nil _ _ _ _) x m news hs h63 hbytes hbase
    exact ⟨v', w', h1, QOwn.of_own h2, h3, h4⟩
  · have hnl := hs.newsLen
    rw [Nat.mul_one] at hnl
    by_cases hroom : n + m ≤ cap
    · have hfit : off + n + news.length ≤ cur.size := by omega
      have hst := run_storeCells_at P g (off + n) 3 news 0 cur w hg (by simpa using hfit) hs.one
      simp only [Nat.add_zero] at hst
      refine ⟨.slice (some ⟨g, off, none⟩) (n + m) cap, w.setRow g (cur.toList.take (off + n) ++ news ++ cur.toList.drop (off + n + news.length)).toArray, ?_, ⟨by rw [List.length_append]; omega, .inr ⟨g, off, cap, _, rfl, hB, setRow_heap w g cur _ 3 _ hg, hroom, hcm, ?_, ?_⟩⟩, ⟨rfl, rfl, rfl, by simp, fun k _ hk => setRow_other w g k _ (fun e => hk (by simp [Value.ownBlock, e]))⟩, .inl rfl⟩
      · rcases hs.kind with ⟨e', hk⟩ | hk <;> simp [Builtin.append_, run_underlying ht, run_underlying hk, sizeOf, typeInfo, hi, hsize, hs.len, hroom, hs.cells, Addr.add_lit, hst]
      · simp only [List.size_toArray, List.length_append, List.length_take, List.length_drop, Array.length_toList]; omega
      · rw [← htake]
        apply List.ext_getElem?
        intro q
        have hcl : cur.toList.length = cur.size := Array.length_toList
        rw [List.getElem?_take]
        split
        · rename_i hq
          rw [List.getElem?_drop]
          by_cases h1 : q < n
          · rw [List.append_assoc, List.getElem?_append_left (by rw [List.length_take]; omega), List.getElem?_take, if_pos (by omega), List.getElem?_append_left (by rw [List.length_take, List.length_drop]; omega), List.getElem?_take, if_pos h1, List.getElem?_drop]
          · rw [List.getElem?_append_left (by rw [List.length_append, List.length_take]; omega), List.getElem?_append_right (by rw [List.length_take]; omega), List.getElem?_append_right (by rw [List.length_take, List.length_drop]; omega), List.length_take, List.length_take, List.length_drop]
            congr 1
            omega
        · rw [List.getElem?_eq_none (by rw [List.length_append, List.length_take, List.length_drop]; omega)]
    · have holds : ∀ j u, xs[j]? = some u → w.cell? ((⟨g, off, none⟩ : Addr).add j) = some u := by
        intro j u hj
        have hj2 : j < n := by rw [← hl]; exact (List.getElem?_eq_some_iff.1 hj).1
        rw [Addr.add_lit, cell_of_row _ _ _ _ _ _ hg, ← hj, ← htake, List.getElem?_take, if_pos hj2, List.getElem?_drop, Array.getElem?_toList]
      have hold := run_firstCells_some (P := P) w.drew i.size n ⟨g, off, none⟩ n cap xs (by rw [hsize, Nat.mul_one]; exact hl) (by simpa using holds)
      have hr := run_append_grow_src (P := P) w t tx ty 3 i z ht hi hz (some ⟨g, off, none⟩) n cap xs hold x m news (by rw [hsize]; exact hs) (by omega) (by simp only [maxLen] at h63; omega) (growslice_fits (by omega) (by rw [hby]; exact hbytes))
      have hge := grownCap_ge w (n + m) cap 3
      have hcm2 : grownCap w (n + m) cap 3 ≤ maxLen := grownCap_le_maxLen w (n + m) cap 3 h63
      refine ⟨_, _, hr, ⟨by rw [List.length_append]; omega, .inr ⟨w.heap.size, 0, _, _, rfl, hbase, heap_alloc_new w.drew _, hge, hcm2, ?_, ?_⟩⟩, ⟨rfl, rfl, rfl, by simp, fun k hk _ => Below.heap_alloc w.drew _ k hk⟩, .inr rfl⟩
      · simp only [Array.size_append, List.size_toArray, size_zeroCells, hzs, List.length_append]
        omega
      · rw [List.drop_zero, Array.toList_append]
        have : (xs ++ news).length = n + m := by rw [List.length_append]; omega
        rw [← this]
        exact List.take_left
variable {ops : Array Oper} {rest : List Oper} {o : Oper} {a : Act} {Q : Exit → Act → World → Prop}
/-- append of numbers that a new block holds, onto a queue. -/
theorem wpList_appQ_new (wr : World) (hgd : o.guard = none) (s x : Operand) (t : TypeId) (ho : o.op = .call { callee := .builtin .append, args := #[s, x], argTypes := #[t, t] })
    (B : Nat) (ht : P.underlying t = some (.slice 3)) {z : Value} {bytes : Nat} (hi : (P.info? 3).map (fun i => (i.zero, i.size, i.bytes)) = some (some z, 1, bytes)) (hzs : z.cells.size = 1)
    (v : Value) (n : Nat) (xs : List Value) (hq : QOwn wr B v n xs) (hs : a.eval s = v) (cs : Array Value) (hm : cs.size = 1) (h1 : ∀ u ∈ cs.toList, u.oneCell' = true)
    (hx : a.eval x = .slice (some ⟨wr.heap.size, 0, none⟩) 1 1) {w0 : World} {fr : Nat × Nat} (hw0 : w0 = wr.alloc (.cells cs 3 fr))
    (h63 : n + 1 ≤ maxLen) (hbytes : (n + 1) * bytes ≤ 140737488355328) (hbase : B ≤ wr.heap.size)
    (h : ∀ v' w', QOwn w' B v' (n + 1) (xs ++ cs.toList) → Below B wr w' → (∀ k, k < wr.heap.size → v.ownBlock ≠ some k → w'.heap[k]? = wr.heap[k]?) → (v'.ownBlock = v.ownBlock ∨ ∃ k, wr.heap.size ≤ k ∧ v'.ownBlock = some k) → wpList P ops Q rest (a.put o.dst v') w') :
    wpList P ops Q (o :: rest) a w0 := by
  subst hw0
  obtain ⟨i0, hi0, hz0, hz1, hz2⟩ := info_parts hi
  have hq2 : QOwn (wr.alloc (.cells cs 3 fr)) B v n xs := hq.keep fun k hk => Below.heap_alloc _ _ _ (hq.lt k hk).2
  obtain ⟨v', w', hr, h2, h3, h4⟩ := run_appQ (wr.alloc (.cells cs 3 fr)) B t t o.type i0 z bytes ht hi0 hz0 hz1 hz2 hzs v n xs hq2 _ 1 cs.toList ((Row.of_block (sz := 1) (heap_alloc_new _ _) (by rw [hm])).src ht h1) h63 hbytes (by simp; omega)
  refine wpList_plain hgd fun K hK => ?_
  unfold Oper.wp execOp
  simp only [ho, resolve, invoke, builtin, Sem.run_bind, Sem.run_pure, Result.andThen_ok, List.map_toArray, List.map_cons, List.map_nil, hs, hx, hr]
  refine hK _ _ (h v' w' h2 ((((Below.refl B wr).alloc hbase _)).grown h3 (by simp; omega) (fun k hk => (hq.lt k hk).1)) (fun k hk hne => ?_) (h4.imp id (fun e => ⟨_, by simp, e⟩)))
  rw [h3.block k (by simp; omega) (fun e => hne e.symm), Below.heap_alloc _ _ _ hk]
end
/-- A block of numbers that is known whole. -/
def IBlk (w : World) (g : Nat) (D : List Int) : Prop := w.heap[g]? = some (.cells (intsV D).toArray 3 (0, 0))
theorem IBlk.lt {w : World} {g : Nat} {D : List Int} (h : IBlk w g D) : g < w.heap.size := (Array.getElem?_eq_some_iff.1 h).1
theorem IBlk.keep {w w' : World} {g : Nat} {D : List Int} (h : IBlk w g D) (hk : w'.heap[g]? = w.heap[g]?) : IBlk w' g D := hk.trans h
theorem IBlk.later {w w' : World} {g : Nat} {D : List Int} (h : IBlk w g D) (hb : Below w.heap.size w w') : IBlk w' g D := h.keep (hb.block g h.lt)
theorem IBlk.cell {w : World} {g : Nat} {D : List Int} (h : IBlk w g D) (k : Nat) (hk : k < D.length) : w.cell? ⟨g, k, none⟩ = some (.int .i64 (D.getD k 0)) := by
  rw [cell_of_row _ _ _ _ _ _ h, List.getElem?_toArray, intsV_get _ _ hk]; rfl
theorem IBlk.frozen {w : World} {g : Nat} {D : List Int} (h : IBlk w g D) (k : Nat) : w.frozen? ⟨g, k, none⟩ = false := by
  unfold World.frozen?; rw [h]; simp
theorem intsV_set (D : List Int) (k : Nat) (v : Int) : (intsV D).toArray.setIfInBounds k (.int .i64 v) = (intsV (D.set k v)).toArray := by
  rw [List.setIfInBounds_toArray]
  unfold intsV
  rw [List.map_set]; rfl
theorem IBlk.set {w : World} {g : Nat} {D : List Int} (h : IBlk w g D) (k : Nat) (v : Int) : IBlk (w.setCell ⟨g, k, none⟩ (.int .i64 v)) g (D.set k v) := by
  have h1 := heap_setCell_same w g k _ _ (.int .i64 v) h
  rw [intsV_set] at h1
  exact h1
theorem IBlk.row {w : World} {g : Nat} {D : List Int} (h : IBlk w g D) : IRow w (some ⟨g, 0, none⟩) D.length D.length D := by
  have h1 := Row.of_block (n := D.length) (sz := 1) h (by simp [intsV_len])
  exact h1
theorem IBlk.row' {w : World} {g z : Nat} {D : List Int} (h : IBlk w g D) (hz : D.length = z) : IRow w (some ⟨g, 0, none⟩) z z D := by rw [← hz]; exact h.row
end Go.Proofs.Ytdildmfjekdlgaa
/- The walk of graph's Out: its result lies in memory of its own. -/
namespace Go.Proofs.Ytdildmfjekdlgaa
open Go.RowKit
set_option maxRecDepth 100000 in
set_option maxHeartbeats 4000000 in
theorem outGr_own (G : Gr) (v : Value) (key : Int) (w : World) (h : GHold w G v) (he : G.es.length ≤ 100000) : Calls Try.prog 40 #[v, .int .i64 key] w fun e w' => ∃ v', e = .returned v' ∧ w'.ownsRow w.heap.size 3 1 v' (outS G.es key).length (intsV (outS G.es key)) ∧ Below w.heap.size w w' := by
  obtain ⟨A, n, c, B, m, k, rfl, h1, -⟩ := h
  have hn : n ≤ 100000 := by rw [← ERow.len h1]; exact he
  have HLN : Hid (G.es.length = n) := Lib.hid (ERow.len h1)
  have HNW := Lib.hid (one_new w (.cells #[.int .i64 G.sz, .slice A n c, .slice B m k] 31))
  have HX : Hid ((w.alloc (.cells #[.int .i64 G.sz, .slice A n c, .slice B m k] 31)).heap[w.heap.size]? = some (.cells #[.int .i64 G.sz, .slice A n c, .slice B m k] 31 (0, 0))) := Lib.hid (heap_alloc_new _ _)
  have HL := Lib.hid (GRow.later h1 HNW.out)
  clear h1 he
  go_enter Try.func40, Try.ntmps40
  go_upto_region 1 with fail
  generalize w.alloc (.cells #[.int .i64 G.sz, .slice A n c, .slice B m k] 31) = y0 at *
  obtain ⟨g, hgg⟩ : ∃ g, w.heap.size = g := ⟨_, rfl⟩
  rw [hgg] at HX ⊢
  have HGG := Lib.hid hgg
  clear hgg
  have hg1 : y0.cell? ⟨g, 1, none⟩ = some (.slice A n c) := (cell_of_row _ _ 1 _ _ _ HX.out).trans rfl
  go_wp2_with fail
  clear hg1
  go_loopw [5, 11] (fun v i wr => ∃ j : Nat, j ≤ n ∧ i = .int .i64 j ∧ Hid (wr.ownsRow y0.heap.size 3 1 v (outS (G.es.take j) key).length (intsV (outS (G.es.take j) key)) ∧ Below y0.heap.size y0 wr)) (fun _ i _ => n - (intOf i).toNat)
  case atStart => exact ⟨0, Nat.zero_le _, rfl, Lib.hid ⟨World.ownsRow_nil _ _ _ _, Below.refl _ _⟩⟩
  case round =>
    obtain ⟨j, hj, rfl, HQ⟩ := hrel
    obtain ⟨A1, c1, hv, -⟩ := Row.of_own HQ.out.1
    subst hv
    have HGL : Hid ((outS (G.es.take j) key).length ≤ 100000) := Lib.hid (Nat.le_trans (outS_len G.es key j (by have := HLN.out; omega)) (by omega))
    by_cases hlt : j < n
    · have hlt2 : (j : Int) < (n : Int) := by omega
      have HST := Lib.hid (outS_snoc G.es key j (by rw [HLN.out]; exact hlt))
      obtain ⟨b, off, hA, hc⟩ := GRow.cells Edg.len (by decide) (GRow.later HL.out HQ.out.2) noEdg j hlt
      subst hA
      generalize G.es.getD j noEdg = p at *
      have HC : Hid (∀ q, q < p.arr.size → wr.cell? ⟨b, off + j * 3 + q, none⟩ = p.arr[q]?) := Lib.hid fun q hq => (hc q hq).trans (by rw [← Edg.list, Array.getElem?_toList])
      clear hc
      go_upto_region 5 with (first | (refine wpList_load_cells rfl 45 (.tmp 13) rfl b (off + j * 3) rfl p.arr _ Try.underlying45 rfl p.info HC.out ?_) | (refine wpList_store_new rfl 45 (.tmp 7) (.tmp 14) rfl 45 _ p.arr rfl rfl p.info rfl p.one ?_))
      have HN3 := Lib.hid (one_new wr (.cells p.arr 45))
      have HY : Hid ((wr.alloc (.cells p.arr 45)).heap[wr.heap.size]? = some (.cells p.arr 45 (0, 0))) := Lib.hid (heap_alloc_new _ _)
      have HO := Lib.hid (own_later HQ.out.1 HN3.out); have HB := Lib.hid (HQ.out.2.trans (HN3.out.mono HQ.out.2.size))
      clear HQ HC HN3
      generalize wr.alloc (.cells p.arr 45) = x2 at *
      generalize wr.heap.size = g4 at *
      obtain ⟨hy0, hy1, -⟩ := edg_cells HY.out
      generalize p.fr = fr at *
      generalize p.tu = tu at *
      generalize hgu : outS (G.es.take j) key = U at *
      clear hgu
      by_cases hk : fr = key
      · have b0 : (fr == key) = true := by rw [hk]; simp
        rw [if_pos hk] at HST
        clear hk
        have hgl := HGL.out
        have hsz : y0.heap.size ≤ x2.heap.size := HB.out.size
        go_wp2_with (at_builtin; go_must (refine wpList_app_new x2 rfl (.tmp 19) (.tmp 22) 22 3 rfl y0.heap.size Try.underlying22 i64_info rfl _ U.length (intsV U) HO.out rfl 1 #[.int .i64 tu] rfl (by simp [Value.oneCell']) rfl rfl (by unfold maxLen; omega) (by omega) hsz ?_); intro v3 w3 ho3 hb3; have HO3 := Lib.hid ho3; have HB3 := Lib.hid (HB.out.trans hb3); clear ho3 hb3)
        exact ⟨⟨j + 1, hlt, by go_num, Lib.hid (by rw [HST.out, List.length_append, intsV_app]; exact ⟨HO3.out, HB3.out⟩)⟩, by simp [intOf]; omega⟩
      · have b0 : (fr == key) = false := by rw [beq_eq_false_iff_ne]; exact hk
        rw [if_neg hk, List.append_nil] at HST
        clear hk
        go_wp2_with fail
        exact ⟨⟨j + 1, hlt, by go_num, Lib.hid ⟨by rw [HST.out]; exact HO.out, HB.out⟩⟩, by simp [intOf]; omega⟩
    · have hlt2 : ¬ (j : Int) < (n : Int) := by omega
      have HE : Hid (outS (G.es.take j) key = outS G.es key) := Lib.hid (by rw [List.take_of_length_le (by rw [HLN.out]; omega)])
      have HO3 := HQ.out.1
      have HB3 := HQ.out.2
      rw [HE.out] at HO3 ⊢
      have HO4 := Lib.hid HO3
      have HB4 := Lib.hid HB3
      clear HO3 HB3 HQ HE HGL
      go_wp2_with fail
      go_ret
      exact ⟨_, rfl, own_mono HO4.out (by have := HNW.out.size; have := HGG.out; omega), HNW.out.trans (HB4.out.mono HNW.out.size)⟩
end Go.Proofs.Ytdildmfjekdlgaa
/- math/bits.Mul: the shelf's contract at this program. -/
namespace Go.Proofs.Ytdildmfjekdlgaa
open Go.RowKit Go.Shelf
def mul_ren : Go.Shelf.Ren := ⟨fun | 212 => 67 | 263 => 69 | 264 => 70 | n => n, fun | 46 => 80 | 51 => 83 | 53 => 86 | 146 => 84 | 148 => 87 | n => n, fun | n => n⟩
theorem mulLays : Lays.n212 Try.prog mul_ren := {
  mixed := by kernel_rfl
  f212 := Try.func67.trans (congrArg some (by kernel_rfl))
  f263 := Try.func69.trans (congrArg some (by kernel_rfl))
  f264 := Try.func70.trans (congrArg some (by kernel_rfl))
  t46 := Try.underlying80
  a46 := Try.isAgg80
  z46 := Try.sizeOf80
  v46 := Try.zeroValue80
  t51 := Try.underlying83
  a51 := Try.isAgg83
  z51 := Try.sizeOf83
  v51 := Try.zeroValue83
  t53 := Try.underlying86
  a53 := Try.isAgg86
  z53 := Try.sizeOf86
  v53 := Try.zeroValue86
  t146 := Try.underlying84
  a146 := Try.isAgg84
  z146 := Try.sizeOf84
  v146 := Try.zeroValue84
  t148 := Try.underlying87
  a148 := Try.isAgg87
  z148 := Try.sizeOf87
  v148 := Try.zeroValue87 }
theorem mul_one_any (k : Nat) (hk : k ≤ 1000000) (w : World) : Calls Try.prog 67 #[.int .u64 1, .int .u64 k] w fun e w' => e = .returned (.tuple #[.int .u64 0, .int .u64 k]) ∧ w' = w := by
  have h := Any.bits_Mul mulLays 1 k (by omega) (by omega) w
  have e1 : 1 * k / 18446744073709551616 = 0 := by omega
  have e2 : 1 * k % 18446744073709551616 = k := by omega
  rw [e1, e2] at h
  exact h
end Go.Proofs.Ytdildmfjekdlgaa
/- Slices of structs in a block that is known whole: append in place, append of zeros, clear, copy, store. Plain facts over any program. -/
namespace Go.Proofs.Ytdildmfjekdlgaa
open Go.RowKit Go
section
variable {P : Program} {ops : Array Oper} {rest : List Oper} {o : Oper} {a : Act} {Q : Exit → Act → World → Prop}
theorem But.row (g : Nat) (w : World) (cs : Array Value) : But g w (w.setRow g cs) := ⟨rfl, rfl, rfl, (below_setRow (Below.refl g w) (Nat.le_refl _) cs).size, fun _ _ hne => setRow_other _ _ _ _ hne⟩
theorem size_of_info {e : TypeId} {size : Nat} (h : (P.info? e).map (·.size) = some size) : ∃ i0, P.info? e = some i0 ∧ i0.size = size := by
  cases hq : P.info? e with
  | none => rw [hq] at h; cases h
  | some i => rw [hq] at h; exact ⟨i, rfl, by simpa using h⟩
/-- clear of a part of a block. -/
theorem run_clear_row (w : World) (t e : TypeId) (ht : P.underlying t = some (.slice e)) {z : Value} {size : Nat} (hv : ∀ w, (zeroValue e).run P w = .ok z w) (hzs : z.cells.size = size) (hz1 : ∀ n, ∀ u ∈ (Builtin.zeroCells z.cells n).toList, u.oneCell' = true) (g q n c : Nat) (cur : List Value) (hg : w.heap[g]? = some (.cells cur.toArray e (0, 0)))
    (A : Option Addr) (hA : 0 < n → A = some ⟨g, q * size, none⟩) (hfit : (q + n) * size ≤ cur.length) :
    ∃ w' zs, zs.length = n * size ∧ (∀ ty, (Builtin.clear_ #[t] ty #[.slice A n c]).run P w = .ok (.tuple #[]) w') ∧ w'.heap[g]? = some (.cells (cur.take (q * size) ++ zs ++ cur.drop ((q + n) * size)).toArray e (0, 0)) ∧ But g w w' := by
  rcases n with _ | n
  · refine ⟨w, [], by simp, fun ty => ?_, ?_, But.refl _ _⟩
    · rcases A with _ | ad <;> simp [Builtin.clear_, run_underlying ht]
    · rw [List.append_nil, Nat.add_zero, List.take_append_drop]; exact hg
  · have hzl : (Builtin.zeroCells z.cells (n + 1)).toList.length = (n + 1) * size := by rw [Array.length_toList, size_zeroCells, hzs]
    have hfit2 : q * size + (Builtin.zeroCells z.cells (n + 1)).toList.length ≤ cur.toArray.size := by rw [hzl, List.size_toArray, ← Nat.add_mul]; exact hfit
    have hst := run_storeCells_at P g (q * size) e (Builtin.zeroCells z.cells (n + 1)).toList 0 cur.toArray w hg (by simpa using hfit2) (hz1 _)
    simp only [Nat.add_zero] at hst
    refine ⟨_, (Builtin.zeroCells z.cells (n + 1)).toList, hzl, fun ty => ?_, setRow_heap w g _ _ e _ hg, But.row _ _ _⟩
    rw [hA (by omega), show (q + (n + 1)) * size = q * size + (Builtin.zeroCells z.cells (n + 1)).toList.length by rw [hzl, Nat.add_mul]]
    simp [Builtin.clear_, run_underlying ht, hv, hst]
/-- copy into a part of a block. -/
theorem run_copy_rowE (w : World) (t tx e : TypeId) (ht : P.underlying t = some (.slice e)) {size : Nat} (hsz : (P.info? e).map (·.size) = some size) (g q dn dc : Nat) (cur : List Value) (hg : w.heap[g]? = some (.cells cur.toArray e (0, 0)))
    (A : Option Addr) (k c c' : Nat) (cs : List Value) (m : Nat) (hm : m = min k dn) (hrow : Row w A m c' size cs) (h1 : ∀ u ∈ cs, u.oneCell' = true) (hfit : (q + m) * size ≤ cur.length) :
    ∃ w', (∀ ty, (Builtin.copy_ #[t, tx] ty #[.slice (some ⟨g, q * size, none⟩) dn dc, .slice A k c]).run P w = .ok (goInt m) w') ∧ w'.heap[g]? = some (.cells (cur.take (q * size) ++ cs ++ cur.drop ((q + m) * size)).toArray e (0, 0)) ∧ But g w w' := by
  obtain ⟨i0, hi0, rfl⟩ := size_of_info hsz
  have hml : cs.length = m * i0.size := hrow.len
  have hfc : (Builtin.firstCells i0.size m (.slice A k c)).run P w = .ok cs.toArray w := by
    rcases hA : A with _ | ad
    · obtain ⟨rfl, rfl⟩ := hrow.nil hA
      have : cs = [] := List.eq_nil_of_length_eq_zero (by simpa using hrow.len)
      subst this
      exact run_firstCells_none _ _ _ _ _
    · refine run_firstCells_some w i0.size m ad k c _ hml fun j u hj => ?_
      have hj2 : j < m * i0.size := by rw [← hml]; exact (List.getElem?_eq_some_iff.1 hj).1
      have hn : 0 < m := by
        rcases Nat.eq_zero_or_pos m with e1 | e1
        · rw [e1, Nat.zero_mul] at hj2; omega
        · omega
      obtain ⟨b, off, hA', hc⟩ := hrow.form hn
      rw [hA] at hA'; injection hA' with hA'; subst hA'
      rw [Addr.add_lit]
      exact (hc j hj2).trans hj
  have hfit2 : q * i0.size + cs.length ≤ cur.toArray.size := by rw [hml, List.size_toArray, ← Nat.add_mul]; exact hfit
  have hst := run_storeCells_at P g (q * i0.size) e cs 0 cur.toArray w hg (by simpa using hfit2) h1
  simp only [Nat.add_zero] at hst
  refine ⟨_, fun ty => ?_, setRow_heap w g _ (cur.take (q * i0.size) ++ cs ++ cur.drop ((q + m) * i0.size)).toArray e _ hg, But.row _ _ _⟩
  rw [show (q + m) * i0.size = q * i0.size + cs.length by rw [hml, Nat.add_mul]]
  simp [Builtin.copy_, run_underlying ht, sizeOf, typeInfo, hi0, Builtin.lenOf, show Nat.min k dn = m from hm.symm, hfc, hst]
/-- A whole struct stored at a place of a block. -/
theorem wpList_store_partE (w : World) (hgd : o.guard = none) (ty : TypeId) (x y : Operand) (ho : o.op = .store ty x y) (g q off : Nat) (e : TypeId) (cur : List Value) (hg : w.heap[g]? = some (.cells cur.toArray e (0, 0))) (cells : Array Value)
    (hx : a.eval x = .pointer (some ⟨g, off, none⟩)) (hoff : off = q) (hy : a.eval y = .agg cells) (hi : (P.info? ty).map (·.size) = some cells.size) (h1 : ∀ u ∈ cells.toList, u.oneCell' = true) (hfit : q + cells.size ≤ cur.length)
    (h : ∀ w', w'.heap[g]? = some (.cells (cur.take q ++ cells.toList ++ cur.drop (q + cells.size)).toArray e (0, 0)) → But g w w' → w'.heap.size = w.heap.size → wpList P ops Q rest (a.put o.dst undef) w') : wpList P ops Q (o :: rest) a w := by
  subst hoff
  obtain ⟨i0, hi0, hz0⟩ := size_of_info hi
  have hst := run_storeCells_at P g off e cells.toList 0 cur.toArray w hg (by simpa using hfit) h1
  simp only [Nat.add_zero, Array.length_toList] at hst
  have hr : (storeVar ty ⟨g, off, none⟩ (.agg cells)).run P w = .ok () (w.setRow g (cur.take off ++ cells.toList ++ cur.drop (off + cells.size)).toArray) := by
    simp [storeVar, sizeOf, typeInfo, hi0, Value.cells, hz0, hst]
  refine wpList_plain hgd fun K hK => ?_
  unfold Oper.wp execOp
  simp only [ho, hx, hy, Instr.storeAt, Instr.sureAddr, Sem.run_bind, Sem.run_pure, Result.andThen_ok, hr]
  exact hK _ _ (h _ (setRow_heap w g _ _ e _ hg) (But.row _ _ _) (by simp [World.setRow]))
end
end Go.Proofs.Ytdildmfjekdlgaa
/- The walk of slices.Repeat of one number. -/
namespace Go.Proofs.Ytdildmfjekdlgaa
open Go.RowKit
section
variable {P : Program}
theorem run_offI {t e : TypeId} (ht : P.underlying t = some (.slice e)) (hz : (P.info? e).map (·.size) = some 1) {g n c i : Nat} {x : Int} (hx : x = (i : Int)) (hin : i ≤ n) (hic : i < c) (k1 : IntKind) (w : World) :
    (Instr.slice t (.slice (some ⟨g, 0, none⟩) n c) (some (.int k1 x)) none none).run P w = .ok (.slice (some ⟨g, i, none⟩) (n - i) (c - i)) w := by
  rw [run_slice_from ht hz hx hin k1 w]
  unfold dropA
  rw [if_neg (by omega), Option.map_some, Addr.add_lit, Nat.zero_add, Nat.mul_one]
theorem run_lowI {t e : TypeId} (ht : P.underlying t = some (.slice e)) (hz : (P.info? e).map (·.size) = some 1) {g n c i : Nat} {x : Int} (hx : x = (i : Int)) (hic : i ≤ c) (k1 : IntKind) (w : World) :
    (Instr.slice t (.slice (some ⟨g, 0, none⟩) n c) none (some (.int k1 x)) none).run P w = .ok (.slice (some ⟨g, 0, none⟩) i c) w := by
  subst hx
  cases hq : P.info? e with
  | none => rw [hq] at hz; cases hz
  | some ie => simp [Instr.slice, run_underlying ht, Instr.sliceBounds, Instr.sliceBound, asIntOf, sizeOf, typeInfo, hq, hic, Addr.add]
end
/-- k cells, j of them a number, the others zero. -/
def repC (a : Int) (k j : Nat) : List Value := List.replicate j (iv a) ++ List.replicate (k - j) (iv 0)
theorem repC_len (a : Int) {k j : Nat} (h : j ≤ k) : (repC a k j).length = k := by unfold repC; simp; omega
theorem repC_step (a : Int) {k j m : Nat} (h : j + m ≤ k) : (repC a k j).take j ++ List.replicate m (iv a) ++ (repC a k j).drop (j + m) = repC a k (j + m) := by
  unfold repC
  rw [List.take_append_of_le_length (by simp), List.take_of_length_le (by simp), List.drop_append, List.drop_eq_nil_of_le (by simp), List.nil_append, List.drop_replicate, List.length_replicate, List.replicate_append_replicate, show k - j - (j + m - j) = k - (j + m) by omega]
theorem repC_full (a : Int) (k : Nat) : repC a k k = intsV (List.replicate k a) := by unfold repC intsV; rw [Nat.sub_self]; simp
theorem repC_row {w : World} {a : Int} {k j g : Nat} (hg : w.heap[g]? = some (.cells (repC a k j).toArray 3 (0, 0))) {m : Nat} (hm : m ≤ j) (hj : j ≤ k) : Row w (some ⟨g, 0, none⟩) m k 1 (List.replicate m (iv a)) := by
  refine ⟨by simp, by omega, fun h => (by cases h), fun ad hA _ => ?_⟩
  injection hA with hA
  subst hA
  refine ⟨g, 0, rfl, fun i hi => ?_⟩
  rw [Nat.zero_add, cell_of_row _ _ _ _ _ _ hg]
  unfold repC
  rw [List.getElem?_toArray, List.getElem?_append_left (by simp; omega), List.getElem?_replicate, List.getElem?_replicate, if_pos (by omega), if_pos (by omega)]
theorem own_cells {w : World} {B g n : Nat} {xs : List Value} (h : w.ownsRow B 3 1 (.slice (some ⟨g, 0, none⟩) n n) n xs) : w.heap[g]? = some (.cells xs.toArray 3 (0, 0)) := by
  rcases h.2 with ⟨hn, -⟩ | ⟨g2, cap, cur, he, hB, hg, h1, h2, h3, h4⟩
  · cases hn
  · injection he with e1 e2 e3
    injection e1 with e1
    injection e1 with e1
    subst e1 e3
    rw [hg]
    have : cur = xs.toArray := by
      rw [← h4, List.take_of_length_le (by rw [Array.length_toList, h3]; exact Nat.le_refl _)]
    rw [this]

structure AnyX (_a _b : World) : Prop where
  mk ::
theorem AnyX.all (a b : World) : AnyX a b := ⟨⟩
theorem rep_first {w : World} {g k m c : Nat} {a : Int} {A : Option Addr} (HG : w.heap[g]? = some (.cells (List.replicate k (.int .i64 0)).toArray 3 (0, 0))) (hr : IRow w A 1 c [a]) (hm : m ≤ k ∧ (0 < k → 0 < m) ∧ m ≤ 1 ∧ m = min 1 k) :
    ∃ w', (∀ ty, (Builtin.copy_ #[22, 22] ty #[.slice (some ⟨g, 0, none⟩) k k, .slice A 1 c]).run Try.prog w = .ok (goInt m) w') ∧ w'.heap[g]? = some (.cells (repC a k m).toArray 3 (0, 0)) ∧ But g w w' := by
  have hrow : Row w A m c 1 (List.replicate m (iv a)) := by
    have h := Row.take hr m hm.2.2.1
    have e : (intsV [a]).take (m * 1) = List.replicate m (iv a) := by
      rw [Nat.mul_one]
      have : m = 0 ∨ m = 1 := by omega
      rcases this with h | h <;> rw [h] <;> rfl
    rw [e] at h
    exact h
  have e0 : repC a k 0 = List.replicate k (iv 0) := by unfold repC; simp
  obtain ⟨w', h1, h2, h3⟩ := run_copy_rowE (P := Try.prog) w 22 22 3 Try.underlying22 (size := 1) i64_size g 0 k k (repC a k 0) (by rw [e0]; exact HG) A 1 c c (List.replicate m (iv a)) m hm.2.2.2 hrow (fun u hu => by rw [(List.mem_replicate.1 hu).2]; rfl) (by rw [repC_len a (Nat.zero_le _)]; omega)
  simp only [Nat.mul_one] at h1 h2
  refine ⟨w', h1, ?_, h3⟩
  rw [repC_step a (by omega : 0 + m ≤ k), Nat.zero_add] at h2
  exact h2
theorem rep_next {w : World} {g k j m : Nat} {a : Int} (HG : w.heap[g]? = some (.cells (repC a k j).toArray 3 (0, 0))) (hj : j < k) (hm : m = min j (k - j) ∧ 0 < m ∧ j + m ≤ k) :
    ∃ w', (∀ ty, (Builtin.copy_ #[22, 22] ty #[.slice (some ⟨g, j, none⟩) (k - j) (k - j), .slice (some ⟨g, 0, none⟩) j k]).run Try.prog w = .ok (goInt m) w') ∧ w'.heap[g]? = some (.cells (repC a k (j + m)).toArray 3 (0, 0)) ∧ But g w w' := by
  obtain ⟨w', h1, h2, h3⟩ := run_copy_rowE (P := Try.prog) w 22 22 3 Try.underlying22 (size := 1) i64_size g j (k - j) (k - j) (repC a k j) HG (some ⟨g, 0, none⟩) j k k (List.replicate m (iv a)) m hm.1 (repC_row HG (by omega) (by omega)) (fun u hu => by rw [(List.mem_replicate.1 hu).2]; rfl) (by rw [repC_len a (by omega)]; omega)
  simp only [Nat.mul_one] at h1 h2
  rw [repC_step a hm.2.2] at h2
  exact ⟨w', h1, h2, h3⟩
set_option maxRecDepth 100000 in
set_option maxHeartbeats 4000000 in
theorem repeat_any (a : Int) (k : Nat) (hk : k ≤ 100000) (A : Option Addr) (c : Nat) (w : World) (hr : IRow w A 1 c [a]) : Calls Try.prog 63 #[.slice A 1 c, .int .i64 k] w fun e w' => e = .returned (.slice (some ⟨w.heap.size, 0, none⟩) k k) ∧ w'.heap[w.heap.size]? = some (.cells (intsV (List.replicate k a)).toArray 3 (0, 0)) ∧ Below w.heap.size w w' := by
  have HR := Lib.hid hr
  have HM : Hid (∀ y, Calls Try.prog 67 #[.int .u64 1, .int .u64 k] y fun e w' => e = .returned (.tuple #[.int .u64 0, .int .u64 k]) ∧ w' = y) := Lib.hid fun y => mul_one_any k (by omega) y
  clear hr
  have n0 : ¬ (k : Int) < 0 := by omega
  have n1 : IntKind.u64.wrap (k : Int) = (k : Int) := by rw [IntKind.wrap_u64]; omega
  have n2 : IntKind.i64.wrap (k : Int) = (k : Int) := by rw [IntKind.wrap_i64]; omega
  have n3 : decide ((k : Int) > 9223372036854775807) = false := decide_eq_false (by omega)
  have n3' : decide ((9223372036854775807 : Int) < (k : Int)) = false := n3
  go_enter Try.func63, Try.ntmps63
  go_wp2_with fail
  refine (HM.out w).mono ?_
  rintro e w1 ⟨rfl, rfl⟩
  obtain ⟨m, hm⟩ : ∃ m, m = min 1 k := ⟨_, rfl⟩
  have HMK : Hid (m ≤ k ∧ (0 < k → 0 < m) ∧ m ≤ 1 ∧ m = min 1 k) := Lib.hid ⟨by omega, by omega, by omega, hm⟩
  clear hm
  go_wp2_with (at_make; go_must (refine wpList_make _ rfl (.tmp 29) (.tmp 29) 22 3 rfl w1.heap.size Try.underlying22 i64_info rfl k k rfl rfl rfl rfl (Nat.le_refl _) (by omega) (by unfold maxLen; omega) (Nat.le_refl _) ?_); intro w2 ho hb; have hcp := rep_first (HG := own_cells ho) (IRow.later HR.out hb) HMK.out; obtain ⟨w3, hcp, hg3, hb3⟩ := hcp; have HG := Lib.hid hg3; have HB : Hid (Below w1.heap.size w1 w3) := Lib.hid (hb.trans (hb3.below (Nat.le_refl _) hb.size)); clear ho hb hg3 hb3)
  clear hcp
  obtain ⟨g, hgg⟩ : ∃ g, w1.heap.size = g := ⟨_, rfl⟩
  rw [hgg] at HG HB ⊢
  have HGG := Lib.hid hgg
  clear hgg
  go_loopw [8] (fun i wr => ∃ j : Nat, j ≤ k ∧ i = .int .i64 j ∧ Hid ((0 < k → 0 < j) ∧ wr.heap[g]? = some (.cells (repC a k j).toArray 3 (0, 0)) ∧ Below g w1 wr)) (fun i _ => k - (intOf i).toNat)
  case atStart => exact ⟨m, HMK.out.1, rfl, Lib.hid ⟨HMK.out.2.1, HG.out, HB.out⟩⟩
  case round =>
    clear HB HG HMK
    obtain ⟨j, hj, rfl, HQ⟩ := hrel
    by_cases hlt : j < k
    · have hlt2 : (j : Int) < (k : Int) := by omega
      have hj0 : 0 < j := HQ.out.1 (by omega)
      obtain ⟨m2, hm2⟩ : ∃ m2, m2 = min j (k - j) := ⟨_, rfl⟩
      have HM2 : Hid (m2 = min j (k - j) ∧ 0 < m2 ∧ j + m2 ≤ k) := Lib.hid ⟨hm2, by omega, by omega⟩
      clear hm2
      go_upto_region 9 with fail
      refine wp_region_grow (by kernel_rfl) AnyX (fun _ => AnyX.all _ _) (fun _ _ _ _ _ => AnyX.all _ _) [8, 9] [([0, 1, 2, 3, 4, 5, 6], 7)] (by kernel_rfl) (by kernel_rfl) (by kernel_rfl) ?_
      simp only [List.map_cons, List.map_nil, pick, List.getD_cons_zero, List.getD_cons_succ]
      have HG1 : Hid (wr.drew.heap[g]? = some (.cells (repC a k j).toArray 3 (0, 0))) := Lib.hid HQ.out.2.1
      have HB1 : Hid (Below g w1 wr.drew) := Lib.hid HQ.out.2.2.drew
      clear HQ
      generalize wr.drew = z0 at *
      have hsa := fun w' => run_offI (P := Try.prog) (t := 22) Try.underlying22 i64_size (g := g) (n := k) (c := k) (i := j) (x := (j : Int)) rfl hj hlt .i64 w'
      have hsb := fun w' => run_lowI (P := Try.prog) (t := 22) Try.underlying22 i64_size (g := g) (n := k) (c := k) (i := j) (x := (j : Int)) rfl hj .i64 w'
      refine wpGrow_cons ?_
      repeat (go_big_quiet_step (fail))
      refine wpQuiet_nil ?_
      clear hsa hsb
      obtain ⟨z1, hcp, hg3, hb3⟩ := rep_next HG1.out hlt HM2.out
      have HG2 := Lib.hid hg3
      have HB2 : Hid (Below g w1 z1) := Lib.hid (HB1.out.trans (hb3.below (Nat.le_refl _) (Nat.le_of_lt (Array.getElem?_eq_some_iff.1 HG1.out).1)))
      clear hg3 hb3
      go_wp2_with fail
      clear hcp
      refine pieceEnd_normal ⟨AnyX.all _ _, ?_⟩
      have h2 := HM2.out.2.2
      have h3 := HM2.out.2.1
      have n5 : IntKind.i64.wrap ((j : Int) + (m2 : Int)) = (j : Int) + (m2 : Int) := by rw [IntKind.wrap_i64]; omega
      have n6 : RowKit.wrap64 ((j : Int) + (m2 : Int)) = (j : Int) + (m2 : Int) := IntWalk.wrap64_in _ (by omega)
      refine wpGrow_nil ?_
      repeat (go_big_quiet_step (fail))
      refine wpQuiet_nil ?_
      go_wp2_with fail
      exact ⟨⟨j + m2, h2, by first | rfl | (refine congrArg _ ?_; omega), Lib.hid ⟨fun _ => by omega, HG2.out, HB2.out⟩⟩, by simp [intOf]; omega⟩
    · have hlt2 : ¬ (j : Int) < (k : Int) := by omega
      have hjk : j = k := by omega
      subst hjk
      have HG1 := Lib.hid HQ.out.2.1
      have HB1 := Lib.hid HQ.out.2.2
      clear HQ
      go_wp2_with fail
      go_ret
      rw [HGG.out]
      refine ⟨rfl, ?_, HB1.out⟩
      rw [← repC_full]
      exact HG1.out
end Go.Proofs.Ytdildmfjekdlgaa
/- What the search of distance keeps in memory. Plain facts. -/
namespace Go.Proofs.Ytdildmfjekdlgaa
open Go.RowKit
theorem outS_asc {es : List Edg} (h : es.Pairwise ltE) (key : Int) : (outS es key).Pairwise (· < ·) := by
  induction es with
  | nil => exact List.Pairwise.nil
  | cons e es ih =>
    have h1 := List.pairwise_cons.1 h
    show (((if e.fr = key then [e.tu] else []) ++ outS es key)).Pairwise (· < ·)
    refine List.pairwise_append.2 ⟨by split <;> simp, ih h1.2, fun a ha b hb => ?_⟩
    split at ha
    · rename_i hf
      rw [List.mem_singleton.1 ha]
      obtain ⟨x, hx, x1, x2⟩ := outS_mem.1 hb
      have := h1.1 x hx
      unfold ltE at this
      omega
    · exact nomatch ha
theorem dAt_cell {d : List Int} {k : Nat} (h : k < d.length) : d.getD k 0 = dAt d (k : Int) := by
  unfold dAt
  rw [Int.toNat_natCast, List.getD_eq_getElem?_getD, List.getD_eq_getElem?_getD, List.getElem?_eq_getElem h]; rfl
/-- Zero at some places. -/
def zeroD (d : List Int) (l : List Int) : List Int := l.foldl (fun d k => d.set k.toNat 0) d
theorem zeroD_len : ∀ (l d : List Int), (zeroD d l).length = d.length
  | [], _ => rfl
  | k :: l, d => by
    show (zeroD (d.set k.toNat 0) l).length = _
    rw [zeroD_len l, List.length_set]
theorem zeroD_snoc (d l : List Int) (j : Nat) (h : j < l.length) : zeroD d (l.take (j + 1)) = (zeroD d (l.take j)).set (l.getD j 0).toNat 0 := by
  unfold zeroD
  rw [List.take_add_one, List.getElem?_eq_getElem h, List.foldl_append, List.getD_eq_getElem?_getD, List.getElem?_eq_getElem h]
  rfl
theorem zeroD_at : ∀ (l d : List Int), (∀ k ∈ l, 0 ≤ k ∧ k < d.length) → ∀ k : Int, 0 ≤ k → dAt (zeroD d l) k = if k ∈ l then 0 else dAt d k
  | [], d, _, k, _ => by rw [if_neg (by simp)]; rfl
  | a :: l, d, h, k, k0 => by
    have ha := h a (List.mem_cons_self ..)
    show dAt (zeroD (d.set a.toNat 0) l) k = _
    rw [zeroD_at l _ (fun x hx => by rw [List.length_set]; exact h x (List.mem_cons_of_mem _ hx)) k k0]
    by_cases hk : k ∈ l
    · rw [if_pos hk, if_pos (List.mem_cons_of_mem _ hk)]
    · rw [if_neg hk, dAt_set (by omega)]
      by_cases e : k = a
      · rw [if_pos (by rw [e]), if_pos (by rw [e]; exact List.mem_cons_self ..)]
      · rw [if_neg (by omega), if_neg (by rw [List.mem_cons]; exact fun q => q.elim e hk)]
theorem dAt_rep {z : Nat} {k : Int} (v : Int) (hv : v = -1) : dAt (List.replicate z v) k = -1 := by
  unfold dAt
  rw [List.getD_eq_getElem?_getD, List.getElem?_replicate]
  split
  · exact hv
  · rfl
/-- The queue's keys from place h on. -/
def keysQ (T : List Qd) (h : Nat) : List Int := (T.drop h).map (·.k)
theorem keysQ_len (T : List Qd) (h : Nat) : (keysQ T h).length = T.length - h := by unfold keysQ; rw [List.length_map, List.length_drop]
theorem keysQ_cons {T : List Qd} {h : Nat} (hh : h < T.length) : keysQ T h = qk T h :: keysQ T (h + 1) := by
  unfold keysQ qk
  rw [List.drop_eq_getElem_cons hh, List.map_cons, List.getD_eq_getElem?_getD, List.getElem?_eq_getElem hh]; rfl
theorem keysQ_snoc {T : List Qd} {h : Nat} (hh : h ≤ T.length) (p : Qd) : keysQ (T ++ [p]) h = keysQ T h ++ [p.k] := by
  unfold keysQ
  rw [List.drop_append_of_le_length hh, List.map_append]; rfl
theorem keysQ_seeds (l : List Int) : keysQ (seedsQ l) 0 = l := by
  unfold keysQ seedsQ
  rw [List.drop_zero, List.map_map]
  exact List.map_id l
theorem Srch.dle {z : Nat} {es : List Edg} {sd : Int → Bool} {h : Nat} {p : List Int} {T : List Qd} {d bf : List Int} (S : Srch z es sd h p T d bf) : ∀ x, x < T.length → dAt d (qk T x) ≤ x := by
  intro x
  induction x using Nat.strongRecOn with
  | _ x ih =>
    intro hx
    rcases Nat.eq_zero_or_pos (qb T x) with q | q
    · rw [(S.seed x hx q).2]; omega
    · obtain ⟨a, -, -, -, r, -⟩ := S.prev x hx (qb T x - 1) (by omega)
      have := ih (qb T x - 1) a (by omega)
      omega
/-- What the search's memory holds: distances, keys before, the queue. -/
structure SMem (y0 : World) (B gd gb : Nat) (d bf : List Int) (v : Value) (xs : List Int) (w : World) : Prop where
  base : Below B y0 w
  size : B ≤ w.heap.size
  ds : IBlk w gd d
  bs : IBlk w gb bf
  q : QOwn w B v xs.length (intsV xs)
  hd : B ≤ gd
  hb : B ≤ gb
  ne : gd ≠ gb
  qd : v.ownBlock ≠ some gd
  qb : v.ownBlock ≠ some gb
section
variable {y0 : World} {B gd gb : Nat} {d bf : List Int} {v : Value} {xs : List Int} {w : World}
theorem SMem.later (h : SMem y0 B gd gb d bf v xs w) {w' : World} (hb : Below w.heap.size w w') : SMem y0 B gd gb d bf v xs w' :=
  { h with
    base := h.base.trans (hb.mono h.size)
    size := Nat.le_trans h.size hb.size
    ds := h.ds.later hb
    bs := h.bs.later hb
    q := h.q.keep fun k hk => hb.block k (h.q.lt k hk).2 }
theorem SMem.setd (h : SMem y0 B gd gb d bf v xs w) (k : Nat) (u : Int) : SMem y0 B gd gb (d.set k u) bf v xs (w.setCell ⟨gd, k, none⟩ (.int .i64 u)) :=
  { h with
    base := h.base.setCell (p := ⟨gd, k, none⟩) h.hd _
    size := by simpa using h.size
    ds := h.ds.set k u
    bs := h.bs.keep (Below.heap_setCell _ _ _ _ (Ne.symm h.ne))
    q := h.q.keep fun q hq => Below.heap_setCell _ _ _ _ (fun e => h.qd (by rw [hq, e])) }
theorem SMem.setb (h : SMem y0 B gd gb d bf v xs w) (k : Nat) (u : Int) : SMem y0 B gd gb d (bf.set k u) v xs (w.setCell ⟨gb, k, none⟩ (.int .i64 u)) :=
  { h with
    base := h.base.setCell (p := ⟨gb, k, none⟩) h.hb _
    size := by simpa using h.size
    ds := h.ds.keep (Below.heap_setCell _ _ _ _ h.ne)
    bs := h.bs.set k u
    q := h.q.keep fun q hq => Below.heap_setCell _ _ _ _ (fun e => h.qb (by rw [hq, e])) }
theorem SMem.app (h : SMem y0 B gd gb d bf v xs w) {x : Int} {v' : Value} {w' : World} (hq : QOwn w' B v' (xs.length + 1) (intsV xs ++ #[Value.int .i64 x].toList)) (hb : Below B w w') (hk : ∀ k, k < w.heap.size → v.ownBlock ≠ some k → w'.heap[k]? = w.heap[k]?)
    (ho : v'.ownBlock = v.ownBlock ∨ ∃ k, w.heap.size ≤ k ∧ v'.ownBlock = some k) : SMem y0 B gd gb d bf v' (xs ++ [x]) w' :=
  { h with
    base := h.base.trans hb
    size := Nat.le_trans h.size hb.size
    ds := h.ds.keep (hk gd h.ds.lt h.qd)
    bs := h.bs.keep (hk gb h.bs.lt h.qb)
    q := by
      rw [List.length_append, intsV_app]
      exact hq
    qd := by
      rcases ho with e | ⟨k, hk1, e⟩
      · rw [e]; exact h.qd
      · rw [e]; intro q; injection q with q; have := h.ds.lt; omega
    qb := by
      rcases ho with e | ⟨k, hk1, e⟩
      · rw [e]; exact h.qb
      · rw [e]; intro q; injection q with q; have := h.bs.lt; omega }
theorem SMem.tail {A : Option Addr} {n c : Nat} {x : Int} (h : SMem y0 B gd gb d bf (.slice A (n + 1) c) (x :: xs) w) (hn : xs.length = n) : SMem y0 B gd gb d bf (.slice (dropA A c 1 1) n (c - 1)) xs w := by
  have h1 := h.q
  rw [show (x :: xs).length = n + 1 by rw [List.length_cons, hn]] at h1
  obtain ⟨h2, h3⟩ := h1.tail
  exact { h with
    q := by rw [hn]; exact h2
    qd := by rw [h3]; exact h.qd
    qb := by rw [h3]; exact h.qb }
end
/-- .. and besides the neighbours of a key. -/
structure SMemO (y0 : World) (B gd gb : Nat) (d bf : List Int) (v : Value) (xs : List Int) (vo : Value) (O : List Int) (w : World) : Prop where
  mem : SMem y0 B gd gb d bf v xs w
  o : w.ownsRow B 3 1 vo O.length (intsV O)
  ap : ∀ k, vo.ownBlock = some k → k ≠ gd ∧ k ≠ gb ∧ v.ownBlock ≠ some k
section
variable {y0 : World} {B gd gb : Nat} {d bf : List Int} {v vo : Value} {xs O : List Int} {w : World}
theorem SMemO.setd (h : SMemO y0 B gd gb d bf v xs vo O w) (k : Nat) (u : Int) : SMemO y0 B gd gb (d.set k u) bf v xs vo O (w.setCell ⟨gd, k, none⟩ (.int .i64 u)) :=
  ⟨h.mem.setd k u, own_keepL h.o fun q hq => Below.heap_setCell _ _ _ _ (h.ap q hq).1, h.ap⟩
theorem SMemO.setb (h : SMemO y0 B gd gb d bf v xs vo O w) (k : Nat) (u : Int) : SMemO y0 B gd gb d (bf.set k u) v xs vo O (w.setCell ⟨gb, k, none⟩ (.int .i64 u)) :=
  ⟨h.mem.setb k u, own_keepL h.o fun q hq => Below.heap_setCell _ _ _ _ (h.ap q hq).2.1, h.ap⟩
theorem SMemO.app (h : SMemO y0 B gd gb d bf v xs vo O w) {x : Int} {v' : Value} {w' : World} (hq : QOwn w' B v' (xs.length + 1) (intsV xs ++ #[Value.int .i64 x].toList)) (hb : Below B w w') (hk : ∀ k, k < w.heap.size → v.ownBlock ≠ some k → w'.heap[k]? = w.heap[k]?)
    (ho : v'.ownBlock = v.ownBlock ∨ ∃ k, w.heap.size ≤ k ∧ v'.ownBlock = some k) : SMemO y0 B gd gb d bf v' (xs ++ [x]) vo O w' :=
  ⟨h.mem.app hq hb hk ho, own_keepL h.o fun q hq2 => hk q (own_lt h.o q hq2) (h.ap q hq2).2.2, fun q hq2 => ⟨(h.ap q hq2).1, (h.ap q hq2).2.1, by
    rcases ho with e | ⟨k, hk1, e⟩
    · rw [e]; exact (h.ap q hq2).2.2
    · rw [e]; intro e2; injection e2 with e2; have := own_lt h.o q hq2; omega⟩⟩
end
/-- What a search gives. -/
def GivesSr (G : Gr) (seeds : List Int) (w : World) (e : Ending) (w' : World) : Prop := ∃ gd gb d bf T, e = .returned (.tuple #[.slice (some ⟨gd, 0, none⟩) G.sz.toNat G.sz.toNat, .slice (some ⟨gb, 0, none⟩) G.sz.toNat G.sz.toNat]) ∧ IBlk w' gd d ∧ IBlk w' gb bf ∧ Srch G.sz.toNat G.es (seedB G.gn seeds) T.length [] T d bf ∧ w.heap.size ≤ gd ∧ w.heap.size ≤ gb ∧ gd ≠ gb ∧ Below w.heap.size w w'
end Go.Proofs.Ytdildmfjekdlgaa
