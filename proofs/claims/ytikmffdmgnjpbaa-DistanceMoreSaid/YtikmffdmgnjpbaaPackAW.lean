import Derived.Test.YtikmffdmgnjpbaaPackAV
import Derived.Test.YtikmffdmgnjpbaaPackAQ
import Derived.Test.YtikmffdmgnjpbaaPackAP
import Derived.Deep.LoopGhost
import Derived.Test.YtikmffdmgnjpbaaPackAS
import Derived.Test.YtikmffdmgnjpbaaPackAJ
import Derived.Test.YtikmffdmgnjpbaaPackAM
import Derived.Test.YtikmffdmgnjpbaaGGraphP
/- The walk of slices.stableCmpFunc over numbers. -/
namespace Go.Proofs.Ytikmffdmgnjpbaa
open Go.Shelf Go.RowKit Go.Lib Go.Sort
variable {P : Program} {α : Type} [Inhabited α]
def sti_ren : Go.Shelf.Ren := ⟨fun | 20 => 50 | n => n, fun | 22 => 22 | 24 => 3 | 25 => 34 | 3 => 3 | 0 => 0 | 4 => 4 | n => n, fun | n => n⟩
theorem StPI.lays (L : StPI P) : SlLaysF.n20 P sti_ren := {
  mixed := L.mixed
  f20 := ⟨Try.f50.name, by decide, L.fIns.trans (congrArg some (by kernel_rfl))⟩
  t0 := L.t0
  a0 := L.a0
  z0 := L.z0
  v0 := L.v0
  t3 := L.t3
  a3 := L.a3
  z3 := L.z3
  v3 := L.v3
  t4 := L.t4
  a4 := L.a4
  z4 := L.z4
  v4 := L.v4
  a24 := L.a3
  z24 := L.z3
  t22 := L.t22
  a22 := L.a22
  z22 := L.z22
  v22 := L.v22
  t25 := L.t25
  a25 := L.a25
  z25 := L.z25
  v25 := L.v25 }
theorem insInner_sizeI {β : Type} [Inhabited β] (lt : β → β → Bool) (a : Nat) : ∀ (j : Nat) (d : Array β), (insInner lt a j d).size = d.size
  | 0, _ => rfl
  | j + 1, d => by
    unfold insInner
    split
    · rw [insInner_sizeI lt a j, swp_size]
    · rfl
theorem insOuter_sizeI {β : Type} [Inhabited β] (lt : β → β → Bool) (a b : Nat) : ∀ (n i : Nat) (d : Array β), b - i = n → (insOuter lt a b i d).size = d.size
  | 0, i, d, h => by rw [insOuter, if_neg (by omega)]
  | n + 1, i, d, h => by rw [insOuter, if_pos (by omega), insOuter_sizeI lt a b n (i + 1) _ (by omega), insInner_sizeI]
theorem insertionSort_sizeI {β : Type} [Inhabited β] (lt : β → β → Bool) (d : Array β) (a b : Nat) : (insertionSort lt d a b).size = d.size := insOuter_sizeI lt a b _ _ d rfl
theorem ins_sti (L : StPI P) (enc : α × Nat → Value) (cf : α → α → Int) (lt : α → α → Bool) (hlt : ∀ x y, lt x y = decide (cf x y < 0)) (g : Nat) (cb : Array Value) (blk off cap : Nat) (d0 : Array (α × Nat)) (w0 : World)
    (eg : ∀ args w, (callFunc g args).run P w = .ok (.enter g args) w) (hcmp : CmpLays1 P g cb enc (fun x y => cf x.1 y.1) blk off d0.size w0)
    (R : Row1 enc w0 blk off d0) (hsz : d0.size ≤ 1000000) (a b : Nat) (d : Array (α × Nat)) (w : World) (hd : d.size = d0.size) (S : SW enc w0 blk off d w) (hab : a ≤ b) (hb : b ≤ d0.size) :
    Calls P 50 #[.slice (some ⟨blk, off, none⟩) d0.size cap, .int .i64 a, .int .i64 b, .func (.func g) #[] cb] w fun e w' => e = .returned (.tuple #[]) ∧ SW enc w0 blk off (insertionSort (ltp lt) d a b) w' := by
  have hc : CmpLays1 P g cb enc (fun x y => cf x.1 y.1) blk off d.size w := fun m os dk hs x y => by
    obtain ⟨m2, os2, he⟩ := S.on R.hblk m dk os hs
    rw [he]
    exact hcmp m2 os2 dk (hs.trans hd) x y
  have h := Any.insertionSortCmpFunc_s L.lays enc (fun x y => cf x.1 y.1) g cb blk off cap a b d d w w eg hc ⟨R.hO, S.holds R.hblk R.hH hd, S.lt R.hblk⟩ rfl (SW.start (S.holds R.hblk R.hH hd)) hab (by omega) (by omega)
  have e : ltOf (fun x y : α × Nat => cf x.1 y.1) = ltp lt := by funext x y; unfold ltOf ltp; rw [hlt]
  rw [e, hd] at h
  refine Calls.mono h ?_
  rintro e w' ⟨rfl, n, os, rfl⟩
  exact ⟨rfl, S.on R.hblk n _ os (insertionSort_sizeI (ltp lt) d a b)⟩
set_option maxHeartbeats 8000000 in
set_option maxRecDepth 1000000 in
theorem stable_sti (L : StPI P) (enc : α × Nat → Value) (cf : α → α → Int) (lt : α → α → Bool) (hlt : ∀ x y, lt x y = decide (cf x y < 0)) (g : Nat) (cb : Array Value) (blk off cap n : Nat) (d : Array (α × Nat)) (w : World)
    (eg : ∀ args w, (callFunc g args).run P w = .ok (.enter g args) w) (hcmp : CmpLays1 P g cb enc (fun x y => cf x.1 y.1) blk off d.size w) (hS : SWO lt)
    (R : Row1 enc w blk off d) (hn : d.size = n) (hsz : n ≤ 1000000) (ht : ∀ p, p < n → d[p]!.2 = p) :
    Calls P 41 #[.slice (some ⟨blk, off, none⟩) n cap, .int .i64 n, .func (.func g) #[] cb] w fun e w' => e = .returned (.tuple #[]) ∧ ∃ d', PermIn 0 n d d' ∧ SortedIn (ltt lt) 0 n d' ∧ SW enc w blk off d' w' := by
  have IN : Aside _ := ins_sti L enc cf lt hlt g cb blk off cap d w eg hcmp R (by omega)
  have SY : Aside _ := symMerge_sti L enc cf lt hlt g cb blk off cap d w eg hcmp hS R (by omega) 2000000
  rw [hn] at IN SY
  have S0 : Aside (SW enc w blk off d w) := SW.start R.hH
  have HT : Aside (∀ p, p < n → d[p]!.2 = p) := ht
  have HN : Aside (d.size = n) := hn
  have FG := L.fStable
  have ei : ∀ args w, (callFunc 50 args).run P w = .ok (.enter 50 args) w := enters_of L.fIns (by kernel_rfl) rfl
  have es : ∀ args w, (callFunc 51 args).run P w = .ok (.enter 51 args) w := enters_of L.fSym (by kernel_rfl) rfl
  have mixed := L.mixed; have t0 := L.t0; have a0 := L.a0; have z0 := L.z0; have v0 := L.v0; have t3 := L.t3; have a3 := L.a3; have z3 := L.z3; have v3 := L.v3; have t4 := L.t4; have a4 := L.a4; have z4 := L.z4; have v4 := L.v4; have t22 := L.t22; have a22 := L.a22; have z22 := L.z22; have v22 := L.v22; have t25 := L.t25; have a25 := L.a25; have z25 := L.z25; have v25 := L.v25; have t39 := L.t39; have a39 := L.a39; have z39 := L.z39; have v39 := L.v39
  clear L hcmp hlt ht hn R eg
  go_enter FG, Try.ntmps41
  go_wp2
  go_loopg [7, 8] (n + 20) (fun kx va vb wr => ∃ (k1 : Nat) (dk : Array (α × Nat)), va = .int .i64 ((k1 * 20 : Nat) : Int) ∧ vb = .int .i64 ((k1 * 20 + 20 : Nat) : Int) ∧ k1 * 20 ≤ n ∧ n + 20 - k1 * 20 ≤ kx ∧ dk.size = n ∧ Aside (SW enc w blk off dk wr) ∧ Aside (Twen lt k1 n d dk ∧ PermIn 0 n d dk))
  case atStart => exact ⟨0, d, rfl, rfl, by omega, by omega, HN.out, S0, Twen.start n d, permIn_refl _ _ _⟩
  case round =>
    clear S0
    obtain ⟨k1, dk, rfl, rfl, hk1, hkx, hds, S1, Q1⟩ := hrel
    obtain ⟨a, ha⟩ : ∃ a, a = k1 * 20 := ⟨_, rfl⟩
    rw [← ha] at hk1 hkx ⊢
    have HA : Aside (a = k1 * 20) := ha
    clear ha
    obtain ⟨b, hb⟩ : ∃ b, b = a + 20 := ⟨_, rfl⟩
    rw [← hb]
    by_cases hl : b ≤ n
    · have e1 : IntKind.i64.wrap ((b : Int) + 20) = ((b + 20 : Nat) : Int) := by rw [IntKind.wrap_i64]; omega
      have hlz : (b : Int) ≤ (n : Int) := by omega
      obtain ⟨c, hc⟩ : ∃ c, c = b + 20 := ⟨_, rfl⟩
      rw [← hc] at e1
      have HB : Aside (b = a + 20 ∧ c = b + 20) := ⟨hb, hc⟩
      clear hb hc
      go_wp2_with fail
      refine (IN.out a b dk wr hds S1.out (by have := HB.out; omega) hl).mono ?_
      rintro e w1 ⟨rfl, hs⟩
      have S2 := Lib.hid hs
      have hq := Q1.out.1.sort hS HT.out (b := b) (by have := HB.out; have := HA.out; omega) hl (by omega) (.inl (by have := HB.out; have := HA.out; omega))
      rw [← HA.out] at hq
      have Q2 := Lib.hid hq
      clear hs hq S1 e1
      go_wp2
      go_roundg (n + 20 - b)
      case measure => have := HB.out; omega
      case rel => exact ⟨k1 + 1, _, by rw [succ_bs, ← HA.out, ← HB.out.1], by rw [succ_bs, ← HA.out, ← HB.out.1]; congr 1, by rw [succ_bs, ← HA.out, ← HB.out.1]; exact hl, by rw [succ_bs, ← HA.out, ← HB.out.1]; exact Nat.le_refl _, by rw [Q2.out.1.1]; exact hds, S2, Q2.out.2, permIn_trans _ _ _ _ _ Q1.out.2 (permIn_mono _ _ a b 0 n (Nat.zero_le _) hl (by omega) Q2.out.1)⟩
    · have hlz : ¬ (b : Int) ≤ (n : Int) := by omega
      have HB : Aside (b = a + 20) := hb
      clear hb
      go_wp2_with fail
      refine (IN.out a n dk wr hds S1.out hk1 (Nat.le_refl _)).mono ?_
      rintro e w1 ⟨rfl, hs⟩
      have S2 := Lib.hid hs
      have hq := Q1.out.1.sort hS HT.out (b := n) (by have := HB.out; have := HA.out; omega) (Nat.le_refl _) (by omega) (.inr ⟨rfl, by have := HB.out; have := HA.out; omega⟩)
      have hd := hq.2.done (by have := HB.out; have := HA.out; omega)
      rw [← HA.out] at hq hd
      have Q2 : Aside (AllB lt 20 n (insertionSort (ltp lt) dk a n) ∧ PermIn 0 n d (insertionSort (ltp lt) dk a n)) := ⟨hd, permIn_trans _ _ _ _ _ Q1.out.2 (permIn_mono _ _ a n 0 n (Nat.zero_le _) (Nat.le_refl _) (by omega) hq.1)⟩
      clear hs hq hd S1 Q1
      generalize insertionSort (ltp lt) dk a n = D at S2 Q2
      clear HA HB hl hlz hkx hk1 hds
      go_wp2
      go_loopg [6] (n + 1) (fun kx vs wr => ∃ (bs : Nat) (dk : Array (α × Nat)), vs = .int .i64 bs ∧ 20 ≤ bs ∧ bs ≤ 2 * n + 20 ∧ n + 1 - bs ≤ kx ∧ Aside (SW enc w blk off dk wr) ∧ Aside (AllB lt bs n dk ∧ PermIn 0 n d dk))
      case atStart => exact ⟨20, D, rfl, Nat.le_refl _, by omega, by omega, S2, Q2⟩
      case round =>
        clear S2 Q2
        obtain ⟨bs, dk, rfl, hbs, hbn, hkx, S1, Q1⟩ := hrel
        by_cases hl : bs < n
        · have hlz : (bs : Int) < (n : Int) := by omega
          obtain ⟨bb, hbb⟩ : ∃ bb, bb = 2 * bs := ⟨_, rfl⟩
          have e1 : IntKind.i64.wrap (2 * (bs : Int)) = (bb : Int) := by rw [IntKind.wrap_i64]; omega
          have e2 : IntKind.i64.wrap ((bs : Int) * 2) = (bb : Int) := by rw [IntKind.wrap_i64]; omega
          have HBB : Aside (bb = 2 * bs ∧ 0 < bs ∧ bb ≤ 2 * n) := ⟨hbb, by omega, by omega⟩
          clear hbb
          have HE1 := Lib.hid e1
          have HE2 := Lib.hid e2
          clear e2
          go_wp2
          clear e1
          go_loopg [7, 8] (n + 1) (fun ky va vb wr => ∃ (k1 a : Nat) (dj : Array (α × Nat)), va = .int .i64 a ∧ vb = .int .i64 ((a + bb : Nat) : Int) ∧ a ≤ n ∧ n + 1 - a ≤ ky ∧ Aside (a = k1 * bb) ∧ Aside (SW enc w blk off dj wr) ∧ Aside (Half lt bs k1 n dj ∧ PermIn 0 n d dj))
          case atStart => exact ⟨0, 0, dk, rfl, by go_num, Nat.zero_le _, by omega, (show Aside _ from (Nat.zero_mul _).symm), S1, Half.start Q1.out.1, Q1.out.2⟩
          case round =>
            clear S1
            obtain ⟨k1, a, dj, rfl, rfl, han, hky, HA, S2, Q2⟩ := hrel
            obtain ⟨b, hb⟩ : ∃ b, b = a + bb := ⟨_, rfl⟩
            obtain ⟨m, hm⟩ : ∃ m, m = a + bs := ⟨_, rfl⟩
            rw [← hb]
            have em : IntKind.i64.wrap ((a : Int) + (bs : Int)) = (m : Int) := by rw [IntKind.wrap_i64]; omega
            have HB : Aside (b = a + 2 * bs ∧ m = a + bs ∧ a = k1 * (2 * bs) ∧ a < m ∧ m < b) := by
              have h1 := HBB.out
              refine ⟨by omega, hm, by rw [← h1.1]; exact HA.out, by omega, by omega⟩
            by_cases hlb : b ≤ n
            · have hlz2 : (b : Int) ≤ (n : Int) := by omega
              obtain ⟨c, hc⟩ : ∃ c, c = b + bb := ⟨_, rfl⟩
              have e1 := HE1.out
              have e3 : IntKind.i64.wrap ((b : Int) + (bb : Int)) = (c : Int) := by rw [IntKind.wrap_i64]; have := HBB.out; omega
              have HC : Aside (c = b + bb) := hc
              clear hc hb hm
              go_wp2_with fail
              refine (SY.out a m b dj wr (by have := HBB.out; omega) (Q2.out.2.1.trans HN.out) S2.out HB.out.2.2.2.1 HB.out.2.2.2.2 hlb).mono ?_
              rintro e w2 ⟨rfl, d2, hM, hs⟩
              have S3 := Lib.hid hs
              have HM := Lib.hid hM
              clear hs hM S2
              go_wp2
              go_roundg (n + 1 - b)
              case measure => have := HB.out; omega
              case rel =>
                have hB := HB.out
                have hM := HM.out
                have hz : dj.size = n := Q2.out.2.1.trans HN.out
                refine ⟨k1 + 1, b, d2, rfl, by rw [← HC.out], hlb, Nat.le_refl _, (show Aside _ from ?_), S3, (show Aside _ from ⟨?_, ?_⟩)⟩
                · show b = (k1 + 1) * bb
                  rw [succ_bs, HBB.out.1, ← hB.2.2.1]; exact hB.1
                · rw [hB.2.1, hB.1] at hM
                  exact Q2.out.1.step hB.2.2.1 HBB.out.2.1 (by omega) (by omega) hM
                · exact permIn_trans _ _ _ _ _ Q2.out.2 (permIn_mono _ _ a b 0 n (Nat.zero_le _) hlb (by omega) hM.1)
            · have hlz2 : ¬ (b : Int) ≤ (n : Int) := by omega
              clear hb hm
              have e2 := HE2.out
              by_cases hmn : m < n
              · have hmz : (m : Int) < (n : Int) := by omega
                go_wp2_with fail
                refine (SY.out a m n dj wr (by have := HBB.out; omega) (Q2.out.2.1.trans HN.out) S2.out HB.out.2.2.2.1 hmn (Nat.le_refl _)).mono ?_
                rintro e w2 ⟨rfl, d2, hM, hs⟩
                have S3 := Lib.hid hs
                have HM := Lib.hid hM
                clear hs hM S2
                go_wp2
                go_roundg (n + 1 - bb)
                case measure => have := HBB.out; omega
                case rel =>
                  have hB := HB.out
                  have hM := HM.out
                  have hz : dj.size = n := Q2.out.2.1.trans HN.out
                  refine ⟨bb, d2, rfl, by have := HBB.out; omega, by have := HBB.out; omega, Nat.le_refl _, S3, (show Aside _ from ⟨?_, ?_⟩)⟩
                  · rw [hB.2.1] at hM
                    rw [HBB.out.1]
                    exact Q2.out.1.done1 hB.2.2.1 (by omega) (by omega) (by omega) hM
                  · exact permIn_trans _ _ _ _ _ Q2.out.2 (permIn_mono _ _ a n 0 n (Nat.zero_le _) (Nat.le_refl _) (by omega) hM.1)
              · have hmz : ¬ (m : Int) < (n : Int) := by omega
                go_wp2
                go_roundg (n + 1 - bb)
                case measure => have := HBB.out; omega
                case rel =>
                  have hB := HB.out
                  refine ⟨bb, dj, rfl, by have := HBB.out; omega, by have := HBB.out; omega, Nat.le_refl _, S2, (show Aside _ from ⟨?_, Q2.out.2⟩)⟩
                  rw [HBB.out.1]
                  exact Q2.out.1.done2 hB.2.2.1 (by omega)
        · have hlz : ¬ (bs : Int) < (n : Int) := by omega
          go_wp2
          go_end0
          exact ⟨rfl, dk, Q1.out.2, Q1.out.1.sorted (by omega), S1.out⟩
end Go.Proofs.Ytikmffdmgnjpbaa
/- slices.SortStableFunc over keys, by their distances. -/
namespace Go.Proofs.Ytikmffdmgnjpbaa
open Go.RowKit Go.Shelf Go.Sort Go.Lib
theorem laid_growI {a b : World} (h : Laid a b) : ∃ q os, b = Sort.grow (a.drewN q) os := by
  obtain ⟨h1, h2⟩ := h
  refine ⟨b.drawn - a.drawn, b.heap.extract a.heap.size b.heap.size, ?_⟩
  obtain ⟨ho, ht, hu, hs, hb⟩ := h1
  obtain ⟨bh, bt, bd, bo, bu⟩ := b
  obtain ⟨ah, at', ad, ao, au⟩ := a
  simp only at ho ht hu hs hb h2
  subst ho ht hu
  unfold Sort.grow World.drewN
  simp only
  congr 1
  · apply Array.ext
    · simp; omega
    · intro i h3 h4
      by_cases hi : i < ah.size
      · rw [Array.getElem_append_left hi]
        have := hb i hi
        rw [Array.getElem?_eq_getElem h3, Array.getElem?_eq_getElem hi] at this
        injection this
      · rw [Array.getElem_append_right (by omega), Array.getElem_extract]
        congr 1
        omega
  · omega
set_option maxRecDepth 100000 in
set_option maxHeartbeats 4000000 in
theorem order1_any (g5 gd z : Nat) (d : List Int) (a b : Nat) (w : World) (hc : w.heap[g5]? = some (.cells #[.slice (some ⟨gd, 0, none⟩) z z] 22 (0, 0))) (hd : IBlk w gd d) (hl : d.length = z) (ha : a < z) (hb : b < z) :
    Calls Try.prog 33 #[.int .i64 a, .int .i64 b, .pointer (some ⟨g5, 0, none⟩)] w fun e w' => e = .returned (.int .i64 (Lib.compareInt (dAt d (a : Int)) (dAt d (b : Int)))) ∧ Laid w w' := by
  have HC := Lib.hid hc
  have HD := Lib.hid hd
  have hda := dAt_cell (d := d) (k := a) (by omega)
  have hdb := dAt_cell (d := d) (k := b) (by omega)
  have HDA : Hid (∀ y, Below w.heap.size w y → y.cell? ⟨gd, a, none⟩ = some (.int .i64 (dAt d (a : Int)))) := Lib.hid fun y hy => by rw [← hda]; exact (HD.out.later hy).cell a (by omega)
  have HDB : Hid (∀ y, Below w.heap.size w y → y.cell? ⟨gd, b, none⟩ = some (.int .i64 (dAt d (b : Int)))) := Lib.hid fun y hy => by rw [← hdb]; exact (HD.out.later hy).cell b (by omega)
  generalize dAt d (a : Int) = x at *
  generalize dAt d (b : Int) = y at *
  clear hda hdb hc hd
  have ha2 : (a : Int) < (z : Int) := by omega
  have hb2 : (b : Int) < (z : Int) := by omega
  go_enter Try.func33, Try.ntmps33
  go_wp2_with fail
  refine wp_region_grow (by kernel_rfl) Laid Laid.refl (fun _ _ _ => Laid.trans) [9] [([0, 1, 2, 3, 4, 5, 6, 7], 8)] (by kernel_rfl) (by kernel_rfl) (by kernel_rfl) ?_
  simp only [List.map_cons, List.map_nil, pick, List.getD_cons_zero, List.getD_cons_succ]
  have HL0 : Hid (Laid w w.drew) := Lib.hid ⟨(Below.refl _ _).drew, Nat.le_succ _⟩
  have hf0 : ∀ q, (fut Laid w.drew q).cell? ⟨g5, 0, none⟩ = some (.slice (some ⟨gd, 0, none⟩) z z) := fun q => (cell_of_row _ _ 0 _ _ _ (((fut_ok Laid.refl w.drew q).1.block _ (Array.getElem?_eq_some_iff.1 HC.out).1).trans HC.out)).trans rfl
  have hf1 : ∀ q, (fut Laid w.drew q).cell? ⟨gd, a, none⟩ = some (.int .i64 x) := fun q => HDA.out _ (HL0.out.1.trans (fut_ok Laid.refl w.drew q).1)
  have hf2 : ∀ q, (fut Laid w.drew q).cell? ⟨gd, b, none⟩ = some (.int .i64 y) := fun q => HDB.out _ (HL0.out.1.trans (fut_ok Laid.refl w.drew q).1)
  generalize w.drew = z0 at *
  refine wpGrow_cons ?_
  repeat (go_big_quiet_step (fail))
  refine wpQuiet_nil ?_
  clear hf0 hf1 hf2
  go_wp2_with fail
  refine (cmpInt_any x y z0).mono ?_
  rintro e w1 ⟨rfl, rfl⟩
  go_wp2_with fail
  refine pieceEnd_normal ⟨Laid.refl _, ?_⟩
  refine wpGrow_nil ?_
  repeat (go_big_quiet_step (fail))
  refine wpQuiet_nil ?_
  go_wp2_with fail
  go_ret
  exact ⟨rfl, HL0.out⟩
theorem stPI : StPI Try.prog := {
  mixed := by kernel_rfl
  fStable := Try.func41
  fIns := Try.func50
  fSym := Try.func51
  fRot := Try.func58
  fSwr := Try.func59
  t0 := Try.underlying0
  a0 := Try.isAgg0
  z0 := Try.sizeOf0
  v0 := Try.zeroValue0
  t3 := Try.underlying3
  a3 := Try.isAgg3
  z3 := Try.sizeOf3
  v3 := Try.zeroValue3
  t4 := Try.underlying4
  a4 := Try.isAgg4
  z4 := Try.sizeOf4
  v4 := Try.zeroValue4
  t22 := Try.underlying22
  a22 := Try.isAgg22
  z22 := Try.sizeOf22
  v22 := Try.zeroValue22
  t25 := Try.underlying34
  a25 := Try.isAgg34
  z25 := Try.sizeOf34
  v25 := Try.zeroValue34
  t39 := Try.underlying63
  a39 := Try.isAgg63
  z39 := Try.sizeOf63
  v39 := Try.zeroValue63 }
/-- Keys, and how a sort compares them. -/
def encZ {z : Nat} (x : Fin z × Nat) : Value := .int .i64 ((x.1.val : Nat) : Int)
def cfD (d : List Int) {z : Nat} (x y : Fin z) : Int := Lib.compareInt (dAt d ((x.val : Nat) : Int)) (dAt d ((y.val : Nat) : Int))
def ltF (d : List Int) {z : Nat} (x y : Fin z) : Bool := decide (cfD d x y < 0)
theorem ltF_iff {d : List Int} {z : Nat} {x y : Fin z} : ltF d x y = true ↔ dAt d ((x.val : Nat) : Int) < dAt d ((y.val : Nat) : Int) := by
  unfold ltF cfD Lib.compareInt
  rw [decide_eq_true_eq]
  split
  · rename_i h; exact ⟨fun _ => h, fun _ => by decide⟩
  · rename_i h
    split
    · exact ⟨fun q => absurd q (by decide), fun q => absurd q h⟩
    · exact ⟨fun q => absurd q (by decide), fun q => absurd q h⟩
theorem ltF_no {d : List Int} {z : Nat} {x y : Fin z} : ltF d x y = false ↔ ¬ dAt d ((x.val : Nat) : Int) < dAt d ((y.val : Nat) : Int) := by
  rw [← Bool.not_eq_true, ltF_iff]
theorem ltF_swo (d : List Int) (z : Nat) : SWO (ltF d (z := z)) := by
  refine ⟨fun x => ?_, fun x y z => ?_, fun x y z => ?_⟩
  · rw [ltF_no]; omega
  · rw [ltF_iff, ltF_iff, ltF_iff]; omega
  · rw [ltF_no, ltF_no, ltF_no]; omega
def valF {z : Nat} (x : Fin z) : Int := ((x.val : Nat) : Int)
theorem to_fin {z : Nat} : ∀ (l : List Int), (∀ k ∈ l, 0 ≤ k ∧ k < z) → ∃ f : List (Fin z), f.map valF = l
  | [], _ => ⟨[], rfl⟩
  | k :: l, h => by
    have hk := h k (List.mem_cons_self ..)
    obtain ⟨f, hf⟩ := to_fin l fun x hx => h x (List.mem_cons_of_mem _ hx)
    exact ⟨⟨k.toNat, by omega⟩ :: f, by rw [List.map_cons, hf]; unfold valF; congr 1; show ((k.toNat : Nat) : Int) = k; omega⟩
/-- Not behind. -/
def leF (d : List Int) {z : Nat} (a b : Fin z × Nat) : Prop := ltt (ltF d) b a = false
/-- A stable sort of keys that ascend, by their distances, gives the keys by distance, then by number. -/
theorem order_of {d : List Int} {z : Nat} {K : List (Fin z)} {D : List (Fin z × Nat)} (hK : (K.map valF).Pairwise (· < ·)) (hm : ∀ k : Int, k ∈ K.map valF ↔ k ∈ orderD d z) (hp : D.Perm K.zipIdx) (hs : D.Pairwise (leF d)) : D.map (fun x => valF x.1) = orderD d z := by
  have hzn : K.zipIdx.Nodup := by
    refine List.pairwise_iff_getElem.2 fun i j hi hj hij e => ?_
    rw [List.getElem_zipIdx, List.getElem_zipIdx] at e
    have := congrArg Prod.snd e
    simp at this
    omega
  have hDn : D.Nodup := hp.nodup_iff.2 hzn
  have h1 : (D.map (fun x => valF x.1)).Pairwise (ltD d) := by
    rw [List.pairwise_map]
    refine List.Pairwise.imp_of_mem ?_ (hs.and hDn)
    intro a b ha hb ⟨h1, h2⟩
    have ma := List.mem_zipIdx_iff_getElem?.1 (hp.mem_iff.1 ha)
    have mb := List.mem_zipIdx_iff_getElem?.1 (hp.mem_iff.1 hb)
    unfold leF ltt at h1
    rw [Bool.or_eq_false_iff, Bool.and_eq_false_iff, decide_eq_false_iff_not, Bool.not_eq_false', ltF_no, ltF_iff] at h1
    unfold ltD valF
    by_cases h3 : dAt d ((a.1.val : Nat) : Int) < dAt d ((b.1.val : Nat) : Int)
    · exact .inl h3
    · right
      refine ⟨by omega, ?_⟩
      have h4 : ¬ b.2 < a.2 := h1.2.resolve_left h3
      have h5 : a.2 ≠ b.2 := fun e => by
        rw [e] at ma
        rw [ma] at mb
        injection mb with mb
        exact h2 (Prod.ext mb e)
      obtain ⟨ia, ea⟩ := List.getElem?_eq_some_iff.1 ma
      obtain ⟨ib, eb⟩ := List.getElem?_eq_some_iff.1 mb
      have h6 := List.pairwise_iff_getElem.1 hK a.2 b.2 (by rw [List.length_map]; exact ia) (by rw [List.length_map]; exact ib) (by omega)
      rw [List.getElem_map, List.getElem_map, ea, eb] at h6
      exact h6
  have hKn : (K.map valF).Nodup := List.Pairwise.imp (fun h e => by omega) hK
  have hOn : (orderD d z).Nodup := List.Pairwise.imp (fun {a b} h e => by unfold ltD at h; rw [e] at h; omega) (orderD_asc d z)
  have h2 : (D.map (fun x => valF x.1)).Perm (orderD d z) := by
    have h3 : (K.zipIdx.map (fun x => valF x.1)) = K.map valF := by
      conv => rhs; rw [← List.zipIdx_map_fst 0 K]
      rw [List.map_map]; rfl
    refine (hp.map (fun x => valF x.1)).trans ?_
    rw [h3]
    exact (List.perm_ext_iff_of_nodup hKn hOn).2 hm
  exact List.Perm.eq_of_pairwise (le := ltD d) (fun a b _ _ g1 g2 => by unfold ltD at g1 g2; omega) h1 (orderD_asc d z) h2
theorem keep_row1 {α : Type} [Inhabited α] (enc : α → Value) (w : World) (m blk off : Nat) (d : Array α) (os : Array Obj) (k : Nat) (hk : k < w.heap.size) (hne : k ≠ blk) : (sortWorld enc w blk off m d os).heap[k]? = w.heap[k]? := by
  unfold sortWorld Sort.grow putRow mapBlock Sort.ahead
  simp only
  rw [Array.getElem?_append_left (by simp; omega), Array.getElem?_modify, if_neg (by omega)]
theorem below_row1 {α : Type} [Inhabited α] (enc : α → Value) (w : World) (m blk off : Nat) (d : Array α) (os : Array Obj) {B : Nat} (hB : B ≤ blk) (hb : B ≤ w.heap.size) : RowKit.Below B w (sortWorld enc w blk off m d os) := by
  refine ⟨rfl, rfl, rfl, ?_, fun k hk => keep_row1 enc w m blk off d os k (by omega) (by omega)⟩
  unfold sortWorld Sort.grow putRow mapBlock Sort.ahead
  simp
theorem ins_zeroI (A : Option Addr) (c : Nat) (f : Value) (w : World) : Calls Try.prog 50 #[.slice A 0 c, .int .i64 0, .int .i64 0, f] w fun e w' => e = .returned (.tuple #[]) ∧ w' = w := by
  go_enter Try.func50, Try.ntmps50
  go_wp2
  go_loopg [8] 0 (fun _ vi wr => vi = .int .i64 1 ∧ wr = w)
  case atStart => exact ⟨rfl, rfl⟩
  case round =>
    obtain ⟨rfl, rfl⟩ := hrel
    go_wp2
    go_end0
    exact ⟨rfl, rfl⟩
theorem stable_zeroI (A : Option Addr) (c : Nat) (f : Value) (w : World) : Calls Try.prog 41 #[.slice A 0 c, .int .i64 0, f] w fun e w' => e = .returned (.tuple #[]) ∧ w' = w := by
  go_enter Try.func41, Try.ntmps41
  go_wp2
  go_loopg [7, 8] 0 (fun _ va vb wr => va = .int .i64 0 ∧ vb = .int .i64 20 ∧ wr = w)
  case atStart => exact ⟨rfl, rfl, rfl⟩
  case round =>
    obtain ⟨rfl, rfl, rfl⟩ := hrel
    go_wp2_with fail
    refine (ins_zeroI A c f _).mono ?_
    rintro e w1 ⟨rfl, rfl⟩
    go_wp2
    go_loopg [6] 0 (fun _ vs wr => vs = .int .i64 20 ∧ wr = w1)
    case atStart => exact ⟨rfl, rfl⟩
    case round =>
      obtain ⟨rfl, rfl⟩ := hrel
      go_wp2
      go_end0
      exact ⟨rfl, rfl⟩
/-- The keys that are reached, sorted by their distances. -/
theorem stable_keys (B g5 gd z : Nat) (d : List Int) (v : Value) (L : List Int) (w : World) (hc : w.heap[g5]? = some (.cells #[.slice (some ⟨gd, 0, none⟩) z z] 22 (0, 0))) (hd : IBlk w gd d) (hl : d.length = z) (h5 : g5 < B) (hgd : gd < B)
    (ho : w.ownsRow B 3 1 v L.length (intsV L)) (hB : B ≤ w.heap.size) (hA : L.Pairwise (· < ·)) (hm : ∀ k : Int, k ∈ L ↔ k ∈ orderD d z) (h0 : 0 < L.length) (hn : L.length ≤ 1000000) :
    ∃ g cap, v = .slice (some ⟨g, 0, none⟩) L.length cap ∧ Calls Try.prog 41 #[v, .int .i64 L.length, .func (.func 33) #[] #[.pointer (some ⟨g5, 0, none⟩)]] w fun e w' => e = .returned (.tuple #[]) ∧ IRow w' (some ⟨g, 0, none⟩) L.length cap (orderD d z) ∧ RowKit.Below B w w' := by
  have hin : ∀ k ∈ L, 0 ≤ k ∧ k < z := fun k hk => by
    have h := orderD_mem.1 ((hm k).1 hk)
    exact ⟨h.1, h.2.1⟩
  obtain ⟨K, hK⟩ := to_fin L hin
  have hz : 0 < z := by
    obtain ⟨k, hk⟩ := List.exists_mem_of_length_pos h0
    have := hin k hk
    omega
  haveI : Inhabited (Fin z) := ⟨⟨0, hz⟩⟩
  have hKl : K.length = L.length := by rw [← hK, List.length_map]
  obtain ⟨hlen, ⟨rfl, hq⟩ | ⟨g, cap, cur, rfl, hBg, hg, hnc, hcm, hcs, htk⟩⟩ := ho
  · omega
  refine ⟨g, cap, rfl, ?_⟩
  obtain ⟨D, hD⟩ : ∃ D, D = K.zipIdx.toArray := ⟨_, rfl⟩
  have hDs : D.size = L.length := by rw [hD]; simp [hKl]
  have hDat : ∀ p (hp : p < L.length), D[p]! = (K[p]'(by omega), p) := fun p hp => by
    rw [getElem!_pos D p (by omega)]
    subst hD
    simp
  have hH : Holds encZ w g 0 D := by
    intro p hp
    have hp' : p < L.length := by rw [← hDs]; exact hp
    rw [hDat p hp', Nat.zero_add]
    refine ⟨?_, ?_⟩
    · rw [cell_of_row _ _ _ _ _ _ hg]
      have h1 : cur.toList[p]? = (intsV L)[p]? := by rw [← htk, List.getElem?_take_of_lt (by omega)]
      rw [← Array.getElem?_toList, h1, intsV_get _ _ hp']
      unfold encZ
      have h2 : L.getD p 0 = valF (K[p]'(by omega)) := by
        rw [List.getD_eq_getElem?_getD, List.getElem?_eq_getElem hp']
        simp only [← hK, List.getElem_map]; rfl
      rw [h2]; rfl
    · unfold World.frozen?
      rw [hg]
      simp
  have hblk : g < w.heap.size := (Array.getElem?_eq_some_iff.1 hg).1
  have eg : ∀ args w, (callFunc 33 args).run Try.prog w = .ok (.enter 33 args) w := enters_of Try.func33 (by kernel_rfl) rfl
  have hcmp : CmpLays1 Try.prog 33 #[.pointer (some ⟨g5, 0, none⟩)] encZ (fun x y => cfD d x.1 y.1) g 0 D.size w := fun m os dk _ x y => by
    refine Calls.mono (order1_any g5 gd z d x.1.val y.1.val (sortWorld encZ w g 0 m dk os) ((keep_row1 encZ w m g 0 dk os g5 (by omega) (by omega)).trans hc) ((keep_row1 encZ w m g 0 dk os gd (by omega) (by omega)).trans hd) hl x.1.isLt y.1.isLt) ?_
    rintro e w' ⟨rfl, h⟩
    exact ⟨rfl, laid_growI h⟩
  have hcon := stable_sti stPI encZ (cfD d) (ltF d) (fun x y => rfl) 33 #[.pointer (some ⟨g5, 0, none⟩)] g 0 cap L.length D w eg hcmp (ltF_swo d z) ⟨fun _ => rfl, hH, hblk⟩ hDs (by omega) (fun p hp => by rw [hDat p hp])
  refine Calls.mono hcon ?_
  rintro e w' ⟨rfl, d', hp, hs, m, os, rfl⟩
  have hd's : d'.size = L.length := by rw [hp.1, hDs]
  have hpp : d'.toList.Perm K.zipIdx := by
    have h := hp.2.2
    rw [show d'.extract 0 L.length = d' by rw [← hd's]; simp, show D.extract 0 L.length = D by rw [← hDs]; simp, hD] at h
    exact h
  have hpw : d'.toList.Pairwise (leF d) := by
    refine List.pairwise_iff_getElem.2 fun i j hi hj hij => ?_
    have hj' : j < d'.size := by simpa using hj
    have h := hs i j (Nat.zero_le _) hij (by omega)
    rw [getElem!_pos d' j hj', getElem!_pos d' i (by omega)] at h
    unfold leF
    rw [Array.getElem_toList, Array.getElem_toList]
    exact h
  have hor := order_of (d := d) (by rw [hK]; exact hA) (by rw [hK]; exact hm) hpp hpw
  have hol : (orderD d z).length = L.length := by rw [← hor, List.length_map, Array.length_toList, hd's]
  refine ⟨rfl, ?_, below_row1 encZ w m g 0 d' os hBg hB⟩
  have hH2 := holds_sortWorld encZ w g 0 m D d' os hblk hH (by rw [hd's, hDs])
  refine ⟨by rw [intsV_len, hol, Nat.mul_one], hnc, fun h => (by cases h), fun ad hA _ => ?_⟩
  injection hA with hA
  subst hA
  refine ⟨g, 0, rfl, fun t ht => ?_⟩
  have ht' : t < d'.size := by omega
  rw [(hH2 t ht').1, intsV_get _ _ (by omega), getElem!_pos d' t ht']
  have h1 : (orderD d z).getD t 0 = valF d'[t].1 := by
    rw [List.getD_eq_getElem?_getD, List.getElem?_eq_getElem (by omega)]
    simp only [← hor, List.getElem_map, Array.getElem_toList]; rfl
  rw [h1]; rfl
end Go.Proofs.Ytikmffdmgnjpbaa
/- The walk of distance's Order. -/
namespace Go.Proofs.Ytikmffdmgnjpbaa
open Go.RowKit
set_option maxRecDepth 100000 in
set_option maxHeartbeats 4000000 in
theorem sort_keys (B g5 gd z : Nat) (d : List Int) (v : Value) (L : List Int) (w : World) (hc : w.heap[g5]? = some (.cells #[.slice (some ⟨gd, 0, none⟩) z z] 22 (0, 0))) (hd : IBlk w gd d) (hl : d.length = z) (h5 : g5 < B) (hgd : gd < B)
    (ho : w.ownsRow B 3 1 v L.length (intsV L)) (hB : B ≤ w.heap.size) (hA : L.Pairwise (· < ·)) (hm : ∀ k : Int, k ∈ L ↔ k ∈ orderD d z) (hn : L.length ≤ 1000000) :
    Calls Try.prog 32 #[v, .func (.func 33) #[] #[.pointer (some ⟨g5, 0, none⟩)]] w fun e w' => e = .returned (.tuple #[]) ∧ (∃ A c, v = .slice A L.length c ∧ IRow w' A L.length c (orderD d z)) ∧ RowKit.Below B w w' := by
  rcases Nat.eq_zero_or_pos L.length with h0 | h0
  · have hO : orderD d z = [] := List.eq_nil_iff_forall_not_mem.2 fun k hk => by
      have := (hm k).2 hk
      rw [List.eq_nil_of_length_eq_zero h0] at this
      exact nomatch this
    obtain ⟨A, c, rfl, hr⟩ := Row.of_own ho
    have HR : Hid (IRow w A L.length c (orderD d z)) := Lib.hid (by
      rw [hO]
      rw [List.eq_nil_of_length_eq_zero h0] at hr ⊢
      exact hr)
    rw [h0] at HR ⊢
    clear hr ho hc hd hO hm hA
    go_enter Try.func32, Try.ntmps32
    go_wp2_with fail
    refine (stable_zeroI A c _ _).mono ?_
    rintro e w1 ⟨rfl, rfl⟩
    go_wp2
    go_end0
    exact ⟨rfl, ⟨A, c, rfl, HR.out⟩, Below.refl _ _⟩
  · obtain ⟨g, cap, rfl, h⟩ := stable_keys B g5 gd z d v L w hc hd hl h5 hgd ho hB hA hm h0 hn
    have H := Lib.hid h
    clear h ho hc hd hm hA
    go_enter Try.func32, Try.ntmps32
    go_wp2_with fail
    refine H.out.mono ?_
    rintro e w1 ⟨rfl, hq⟩
    have HQ := Lib.hid hq
    clear hq H
    go_wp2
    go_end0
    exact ⟨rfl, ⟨_, _, rfl, HQ.out.1⟩, HQ.out.2⟩
set_option maxRecDepth 100000 in
set_option maxHeartbeats 4000000 in
theorem order_any12 (G : Gr) (v : Value) (A2 : Option Addr) (n2 c2 : Nat) (seeds : List Int) (w : World) (h : GHold w G v) (hgd : Good11 G) (hs : IRow w A2 n2 c2 seeds) (hn2 : n2 ≤ 100000) : Calls Try.prog 21 #[v, .slice A2 n2 c2] w (GivesI w (orderD (allD G seeds) G.sz.toNat)) := by
  have HGH := Lib.hid h
  obtain ⟨A, n, c, B, m, k, rfl, -, -⟩ := h
  have HNW := Lib.hid (one_new w (.cells #[.int .i64 G.sz, .slice A n c, .slice B m k] 29))
  have HX : Hid ((w.alloc (.cells #[.int .i64 G.sz, .slice A n c, .slice B m k] 29)).heap[w.heap.size]? = some (.cells #[.int .i64 G.sz, .slice A n c, .slice B m k] 29 (0, 0))) := Lib.hid (heap_alloc_new _ _)
  have HSE : Hid (∀ y, Below w.heap.size w y → Calls Try.prog 15 #[.agg #[.int .i64 G.sz, .slice A n c, .slice B m k], .slice A2 n2 c2] y (GivesAll G seeds y)) := Lib.hid fun y hy => all_any G _ A2 n2 c2 seeds y (HGH.out.later hy) hgd (hs.later hy) hn2
  have HAD := Lib.hid (allD_dist hgd seeds)
  have hhi := hgd.hi
  obtain ⟨z, hz⟩ : ∃ z : Nat, G.sz.toNat = z := ⟨_, rfl⟩
  have hz64 : z ≤ 64 := by omega
  unfold GivesAll at HSE
  rw [hz] at HSE HAD ⊢
  have HDL : Hid ((allD G seeds).length = z) := Lib.hid HAD.out.len
  have HMM : Hid (∀ k : Int, k ∈ firstS (fun k => dAt (allD G seeds) k != -1) z ↔ k ∈ orderD (allD G seeds) z) := Lib.hid fun k => by
    rw [firstS_mem, orderD_mem]
    constructor
    · rintro ⟨h0, h1, h2⟩
      have h3 : dAt (allD G seeds) k ≠ -1 := by simpa using h2
      have h4 := HAD.out.low k h0 h1
      exact ⟨h0, h1, by omega, HAD.out.lt h0 h1⟩
    · rintro ⟨h0, h1, h2, h3⟩
      exact ⟨h0, h1, by rw [bne_iff_ne]; omega⟩
  generalize allD G seeds = d at *
  have HFA := Lib.hid (firstS_asc (fun k => dAt d k != -1) z)
  have HFL : Hid (∀ j, (firstS (fun k => dAt d k != -1) j).length ≤ j) := Lib.hid fun j => firstS_len _ j
  have HFS : Hid (∀ j, firstS (fun k => dAt d k != -1) (j + 1) = firstS (fun k => dAt d k != -1) j ++ (if dAt d (j : Int) != -1 then [(j : Int)] else [])) := Lib.hid fun j => firstS_snoc _ j
  have HF0 : Hid (firstS (fun k => dAt d k != -1) 0 = []) := Lib.hid rfl
  generalize firstS (fun k => dAt d k != -1) = FI at *
  clear hs hgd HGH hz hhi HAD
  go_enter Try.func21, Try.ntmps21
  go_upto_region 1 with fail
  have HSZ : Hid (w.heap.size ≤ (w.alloc (.cells #[.int .i64 G.sz, .slice A n c, .slice B m k] 29)).heap.size) := Lib.hid HNW.out.size
  generalize w.alloc (.cells #[.int .i64 G.sz, .slice A n c, .slice B m k] 29) = y0 at *
  go_wp2_with (refine wpList_load_row rfl 29 (.tmp 2) rfl w.heap.size rfl 29 #[.int .i64 G.sz, .slice A n c, .slice B m k] (0, 0) _ HX.out Try.underlying29 rfl gr_size ?_)
  refine (HSE.out y0 HNW.out).mono ?_
  rintro e w1 ⟨gd, rfl, h1, h2, hb⟩
  have HB := Lib.hid (HNW.out.trans (hb.mono HSZ.out))
  have HD := Lib.hid h1
  clear h1 h2 hb HSE HX
  go_upto_region 2 with fail
  have hbn := one_new w1 (.cells #[.slice (some ⟨gd, 0, none⟩) z z] 22)
  have HC5 : Hid ((w1.alloc (.cells #[.slice (some ⟨gd, 0, none⟩) z z] 22)).heap[w1.heap.size]? = some (.cells #[.slice (some ⟨gd, 0, none⟩) z z] 22 (0, 0))) := Lib.hid (heap_alloc_new _ _)
  have HLT : Hid (gd < w1.heap.size) := Lib.hid HD.out.lt
  have HSX : Hid (w1.heap.size + 1 = (w1.alloc (.cells #[.slice (some ⟨gd, 0, none⟩) z z] 22)).heap.size) := Lib.hid (by simp)
  replace HD := Lib.hid (HD.out.later hbn)
  replace HB := Lib.hid (HB.out.trans (hbn.mono HB.out.size))
  clear hbn
  generalize w1.alloc (.cells #[.slice (some ⟨gd, 0, none⟩) z z] 22) = x0 at *
  generalize w1.heap.size = g5 at *
  have hc5 : x0.cell? ⟨g5, 0, none⟩ = some (.slice (some ⟨gd, 0, none⟩) z z) := (cell_of_row _ _ 0 _ _ _ HC5.out).trans rfl
  go_wp2_with fail
  clear hc5
  go_loopw [6, 14] (fun v i wr => ∃ j : Nat, j ≤ z ∧ i = .int .i64 j ∧ Hid (wr.ownsRow x0.heap.size 3 1 v (FI j).length (intsV (FI j)) ∧ Below x0.heap.size x0 wr)) (fun _ i _ => z - (intOf i).toNat)
  case atStart => exact ⟨0, Nat.zero_le _, rfl, Lib.hid ⟨by rw [HF0.out]; exact World.ownsRow_nil _ _ _ _, Below.refl _ _⟩⟩
  case round =>
    obtain ⟨j, hj, rfl, HQ⟩ := hrel
    have HO := Lib.hid HQ.out.1
    have HBr := Lib.hid HQ.out.2
    clear HQ
    by_cases hlt : j < z
    · have hlt2 : (j : Int) < (z : Int) := by omega
      have hdl : j < d.length := by rw [HDL.out]; exact hlt
      have hdc := (HD.out.later HBr.out).cell j hdl
      rw [dAt_cell hdl] at hdc
      have HST := Lib.hid (HFS.out j)
      have HLE := Lib.hid (HFL.out j)
      clear hdl
      generalize dAt d (j : Int) = dv at *
      by_cases hun : dv = -1
      · have b0 : (dv != -1) = false := by rw [hun]; rfl
        rw [if_neg (by rw [b0]; decide), List.append_nil] at HST
        clear hun
        go_wp2_with fail
        exact ⟨⟨j + 1, hlt, by go_num, Lib.hid ⟨by rw [HST.out]; exact HO.out, HBr.out⟩⟩, by simp [intOf]; omega⟩
      · have b0 : (dv != -1) = true := by rw [bne_iff_ne]; exact hun
        rw [if_pos b0] at HST
        clear hun
        have hgl := HLE.out
        have hsz : x0.heap.size ≤ wr.heap.size := HBr.out.size
        obtain ⟨A1, c1, hv, -⟩ := Row.of_own HO.out
        subst hv
        go_wp2_with (at_builtin; go_must (refine wpList_app_new wr rfl (.tmp 21) (.tmp 23) 22 3 rfl x0.heap.size Try.underlying22 i64_info rfl _ (FI j).length (intsV (FI j)) HO.out rfl 1 #[.int .i64 (j : Int)] rfl (by simp [Value.oneCell']) rfl rfl (by unfold maxLen; omega) (by omega) hsz ?_); intro v3 w3 ho3 hb3; have HO3 := Lib.hid ho3; have HB3 := Lib.hid (HBr.out.trans hb3); clear ho3 hb3)
        exact ⟨⟨j + 1, hlt, by go_num, Lib.hid (by rw [HST.out, List.length_append, intsV_app]; exact ⟨HO3.out, HB3.out⟩)⟩, by simp [intOf]; omega⟩
    · have hlt2 : ¬ (j : Int) < (z : Int) := by omega
      have hjz : j = z := by omega
      have HFZ : Hid ((FI z).length ≤ z) := Lib.hid (HFL.out z)
      rw [hjz] at HO
      clear hjz
      have HS := Lib.hid (sort_keys x0.heap.size g5 gd z d _ (FI z) wr ((HBr.out.block _ (by have := HSX.out; omega)).trans HC5.out) (HD.out.later HBr.out) HDL.out (by have := HSX.out; omega) (by have := HSX.out; have := HLT.out; omega) HO.out HBr.out.size HFA.out HMM.out (by have := HFZ.out; omega))
      obtain ⟨A1, c1, hv, -⟩ := Row.of_own HO.out
      subst hv
      go_wp2_with fail
      refine HS.out.mono ?_
      rintro e w5 ⟨rfl, ⟨A5, c5, hv, hr⟩, hb⟩
      have HV := Lib.hid hv
      have HR := Lib.hid hr
      have HB5 := Lib.hid (HB.out.trans ((HBr.out.trans hb).mono HB.out.size))
      clear hv hr hb HS
      go_wp2_with fail
      go_ret
      exact ⟨A5, (FI z).length, c5, congrArg Ending.returned HV.out, HR.out, HB5.out⟩
end Go.Proofs.Ytikmffdmgnjpbaa
/- The sanity check of the laws of layer 12. -/
namespace Go.Proofs.Ytikmffdmgnjpbaa
open Go.RowKit
def grA : Gr := ⟨4, [⟨0, 2, 1⟩, ⟨2, 1, 1⟩], []⟩
theorem good_grA : Good11 grA := (okG_iff grA).1 (by kernel_rfl)
theorem all_grA : allD grA [0] = [0, 2, 1, -1] := by kernel_rfl
theorem order_grA : orderD (allD grA [0]) grA.sz.toNat = [0, 2, 1] := by kernel_rfl
theorem way_grA : wayD grA [0] 1 = ([0, 2, 1], true) := by
  unfold wayD
  rw [if_pos (by decide +kernel)]
  kernel_rfl
/-- The graph and the seeds of a law, as they lie in memory. -/
structure LG (w0 : World) (G : Gr) (S : List Int) (A : Option Addr) (n c : Nat) (B : Option Addr) (m k : Nat) (AS : Option Addr) (ns cs g0 : Nat) (w : World) : Prop where
  box : w.heap[g0]? = some (.cells #[.int .i64 G.sz, .slice A n c, .slice B m k] 29 (0, 0))
  es : ERow w A n c G.es
  gn : IRow w B m k G.gn
  sd : IRow w AS ns cs S
  base : Below w0.heap.size w0 w
theorem LG.later {w0 : World} {G : Gr} {S : List Int} {A : Option Addr} {n c : Nat} {B : Option Addr} {m k : Nat} {AS : Option Addr} {ns cs g0 : Nat} {w w' : World} (h : LG w0 G S A n c B m k AS ns cs g0 w) (hb : Below w.heap.size w w') : LG w0 G S A n c B m k AS ns cs g0 w' :=
  ⟨(hb.block _ (Array.getElem?_eq_some_iff.1 h.box).1).trans h.box, GRow.later h.es hb, h.gn.later hb, h.sd.later hb, h.base.trans (hb.mono h.base.size)⟩
theorem LG.hold {w0 : World} {G : Gr} {S : List Int} {A : Option Addr} {n c : Nat} {B : Option Addr} {m k : Nat} {AS : Option Addr} {ns cs g0 : Nat} {w : World} (h : LG w0 G S A n c B m k AS ns cs g0 w) : GHold w G (.agg #[.int .i64 G.sz, .slice A n c, .slice B m k]) := ⟨A, n, c, B, m, k, rfl, h.es, h.gn⟩
set_option maxRecDepth 100000 in
set_option maxHeartbeats 4000000 in
theorem awake12_any (w : World) : Calls Try.prog 8 #[] w (SaysL (.bool true) w) := by
  have HGD := Lib.hid good_grA
  have HAA := Lib.hid all_grA; have HOA := Lib.hid order_grA; have HWA := Lib.hid way_grA
  go_enter Try.func8, Try.ntmps8
  go_upto_region 2 with (refine wpList_store_new rfl 29 (.tmp 1) (.tmp 9) rfl 29 _ #[.int .i64 4, .slice (some ⟨w.heap.size, 0, none⟩) 2 2, .slice none 0 0] rfl rfl gr_size rfl (by simp [Value.oneCell']) ?_)
  have hb0 : Below w.heap.size w ((w.alloc (.cells #[.int .i64 0, .int .i64 2, .int .i64 1, .int .i64 2, .int .i64 1, .int .i64 1] 38)).alloc (.cells #[.int .i64 4, .slice (some ⟨w.heap.size, 0, none⟩) 2 2, .slice none 0 0] 29)) := (one_new w _).trans ((one_new _ _).mono (by simp))
  have hx : ((w.alloc (.cells #[.int .i64 0, .int .i64 2, .int .i64 1, .int .i64 2, .int .i64 1, .int .i64 1] 38)).alloc (.cells #[.int .i64 4, .slice (some ⟨w.heap.size, 0, none⟩) 2 2, .slice none 0 0] 29)).heap[w.heap.size + 1]? = some (.cells #[.int .i64 4, .slice (some ⟨w.heap.size, 0, none⟩) 2 2, .slice none 0 0] 29 (0, 0)) := heap_alloc2_new _ _ _
  have he : ((w.alloc (.cells #[.int .i64 0, .int .i64 2, .int .i64 1, .int .i64 2, .int .i64 1, .int .i64 1] 38)).alloc (.cells #[.int .i64 4, .slice (some ⟨w.heap.size, 0, none⟩) 2 2, .slice none 0 0] 29)).heap[w.heap.size]? = some (.cells #[.int .i64 0, .int .i64 2, .int .i64 1, .int .i64 2, .int .i64 1, .int .i64 1] 38 (0, 0)) := (Below.heap_alloc _ _ _ (by simp)).trans (heap_alloc_new _ _)
  generalize (w.alloc (.cells #[.int .i64 0, .int .i64 2, .int .i64 1, .int .i64 2, .int .i64 1, .int .i64 1] 38)).alloc (.cells #[.int .i64 4, .slice (some ⟨w.heap.size, 0, none⟩) 2 2, .slice none 0 0] 29) = y0 at *
  have HER : Hid (ERow y0 (some ⟨w.heap.size, 0, none⟩) 2 2 grA.es) := Lib.hid (Row.of_block (n := 2) (sz := 3) he rfl)
  have HB := Lib.hid hb0
  have HX := Lib.hid hx
  clear hb0 hx he
  generalize hge0 : w.heap.size = ge at *
  have HGE := Lib.hid hge0
  clear hge0
  have HHO : Hid (∀ y, Below y0.heap.size y0 y → GHold y grA (.agg #[.int .i64 4, .slice (some ⟨ge, 0, none⟩) 2 2, .slice none 0 0])) := Lib.hid fun y hy => ⟨_, _, _, _, _, _, rfl, GRow.later HER.out hy, Row.nilRow _ _⟩
  have HALL : Hid (∀ y As c, Below y0.heap.size y0 y → IRow y As 1 c [0] → Calls Try.prog 15 #[.agg #[.int .i64 4, .slice (some ⟨ge, 0, none⟩) 2 2, .slice none 0 0], .slice As 1 c] y fun e w' => ∃ gd, e = .returned (.slice (some ⟨gd, 0, none⟩) 4 4) ∧ IBlk w' gd [0, 2, 1, -1] ∧ y.heap.size ≤ gd ∧ Below y.heap.size y w') := Lib.hid fun y As c hy hr => by
    have h := all_any grA _ As 1 c [0] y (HHO.out y hy) HGD.out hr (by decide)
    unfold GivesAll at h
    rw [HAA.out] at h
    exact h
  have HORD : Hid (∀ y As c, Below y0.heap.size y0 y → IRow y As 1 c [0] → Calls Try.prog 21 #[.agg #[.int .i64 4, .slice (some ⟨ge, 0, none⟩) 2 2, .slice none 0 0], .slice As 1 c] y (GivesI y [0, 2, 1])) := Lib.hid fun y As c hy hr => by
    have h := order_any12 grA _ As 1 c [0] y (HHO.out y hy) HGD.out hr (by decide)
    rw [HOA.out] at h
    exact h
  have HWAY : Hid (∀ y As c, Below y0.heap.size y0 y → IRow y As 1 c [0] → Calls Try.prog 16 #[.agg #[.int .i64 4, .slice (some ⟨ge, 0, none⟩) 2 2, .slice none 0 0], .slice As 1 c, .int .i64 1] y (GivesIB y ([0, 2, 1], true))) := Lib.hid fun y As c hy hr => by
    have h := way_any grA _ As 1 c [0] 1 y (HHO.out y hy) HGD.out hr (by decide)
    rw [HWA.out] at h
    exact h
  clear HHO HER HAA HOA HWA HGD
  have hb1 := one_new y0 (.cells #[.int .i64 0] 3)
  have HC := Lib.hid (HALL.out (y0.alloc (.cells #[.int .i64 0] 3)) (some ⟨y0.heap.size, 0, none⟩) 1 hb1 (IBlk.row (D := [0]) (heap_alloc_new _ _)))
  have HU1 := Lib.hid hb1
  clear hb1 HALL
  go_wp2_with (refine wpList_load_row rfl 29 (.tmp 1) rfl (ge + 1) rfl 29 #[.int .i64 4, .slice (some ⟨ge, 0, none⟩) 2 2, .slice none 0 0] (0, 0) _ HX.out Try.underlying29 rfl gr_size ?_)
  refine HC.out.mono ?_
  rintro e w1 ⟨gd, rfl, hd, hge, hb⟩
  have HD := Lib.hid hd
  have HB1 : Hid (Below y0.heap.size y0 w1) := Lib.hid (HU1.out.trans (hb.mono (by simp)))
  have HX1 := Lib.hid ((HB1.out.block _ (Array.getElem?_eq_some_iff.1 HX.out).1).trans HX.out)
  clear hd hge hb HC HU1
  have hb1 := one_new w1 (.cells #[.int .i64 0] 3)
  have HC := Lib.hid (HORD.out (w1.alloc (.cells #[.int .i64 0] 3)) (some ⟨w1.heap.size, 0, none⟩) 1 (HB1.out.trans (hb1.mono HB1.out.size)) (IBlk.row (D := [0]) (heap_alloc_new _ _)))
  have HU1 := Lib.hid hb1
  clear hb1 HORD
  go_wp2_with (refine wpList_load_row rfl 29 (.tmp 1) rfl (ge + 1) rfl 29 #[.int .i64 4, .slice (some ⟨ge, 0, none⟩) 2 2, .slice none 0 0] (0, 0) _ HX1.out Try.underlying29 rfl gr_size ?_)
  refine HC.out.mono ?_
  rintro e w2 ⟨A3, n3, c3, rfl, hr, hb⟩
  have hn3 : n3 = 3 := hr.len.symm
  subst hn3
  have HR := Lib.hid hr
  have HL2 : Hid (Below w1.heap.size w1 w2) := Lib.hid (HU1.out.trans (hb.mono (by simp)))
  have HB2 : Hid (Below y0.heap.size y0 w2) := Lib.hid (HB1.out.trans (HL2.out.mono HB1.out.size))
  have HX2 := Lib.hid ((HB2.out.block _ (Array.getElem?_eq_some_iff.1 HX.out).1).trans HX.out)
  have HD2 := Lib.hid (HD.out.later HL2.out)
  clear hr hb HC HU1 HL2 HD HB1 HX1
  have hb1 := one_new w2 (.cells #[.int .i64 0] 3)
  have HC := Lib.hid (HWAY.out (w2.alloc (.cells #[.int .i64 0] 3)) (some ⟨w2.heap.size, 0, none⟩) 1 (HB2.out.trans (hb1.mono HB2.out.size)) (IBlk.row (D := [0]) (heap_alloc_new _ _)))
  have HU1 := Lib.hid hb1
  clear hb1 HWAY
  go_wp2_with (refine wpList_load_row rfl 29 (.tmp 1) rfl (ge + 1) rfl 29 #[.int .i64 4, .slice (some ⟨ge, 0, none⟩) 2 2, .slice none 0 0] (0, 0) _ HX2.out Try.underlying29 rfl gr_size ?_)
  refine HC.out.mono ?_
  rintro e w3 ⟨A4, n4, c4, rfl, hr, hb⟩
  have hn4 : n4 = 3 := hr.len.symm
  subst hn4
  have HL2 : Hid (Below w2.heap.size w2 w3) := Lib.hid (HU1.out.trans (hb.mono (by simp)))
  have HB3 : Hid (Below y0.heap.size y0 w3) := Lib.hid (HB2.out.trans (HL2.out.mono HB2.out.size))
  have HD3 := Lib.hid (HD2.out.later HL2.out)
  have HR3 := Lib.hid (HR.out.later HL2.out)
  clear hr hb HC HU1 HL2 HD2 HB2 HX2 HR HX
  have c1 : w3.cell? ⟨gd, 1, none⟩ = some (.int .i64 2) := HD3.out.cell 1 (by decide)
  have c2 : w3.cell? ⟨gd, 2, none⟩ = some (.int .i64 1) := HD3.out.cell 2 (by decide)
  have c3' : w3.cell? ⟨gd, 3, none⟩ = some (.int .i64 (-1)) := HD3.out.cell 3 (by decide)
  obtain ⟨b, off, hA, hc⟩ := IRow.cell HR3.out 1 (by decide)
  subst hA
  have c4' : w3.cell? ⟨b, off + 1, none⟩ = some (.int .i64 2) := hc
  clear hc HD3 HR3
  go_wp2_with fail
  go_ret
  rw [← HGE.out] at HB
  exact ⟨rfl, HB.out.trans (HB3.out.mono HB.out.size)⟩
end Go.Proofs.Ytikmffdmgnjpbaa
/- The law of layer 12 on one graph. -/
namespace Go.Proofs.Ytikmffdmgnjpbaa
open Go.RowKit
end Go.Proofs.Ytikmffdmgnjpbaa
/- The walk of trustflowmade's dice: Some. -/
namespace Go.Proofs.Ytikmffdmgnjpbaa
open Go.RowKit
set_option maxRecDepth 20000 in
set_option maxHeartbeats 1000000 in
theorem some_any (L D : Nat) (t : List Int) (k : Nat) (n : Nat) (w : World) (h : DiceAt w L D t k) (hn : n ≤ 100000) :
    Calls Try.prog 12 #[.pointer (some ⟨D, 0, none⟩), .int .i64 n] w fun e w' => ∃ v, e = .returned v ∧ IOwn w' w.heap.size v (diceSs t n k).1 ∧ DiceAt w' L D t (diceSs t n k).2 ∧ But D w w' := by
  have H := Lib.hid h; have hD := h.lt; clear h
  go_enter Try.func12, Try.ntmps12
  go_wp2_with fail
  go_loopw [5, 6] (fun v i wr => ∃ j : Nat, j ≤ n ∧ i = .int .i64 j ∧ Hid (IOwn wr w.heap.size v (diceSs t j k).1 ∧ DiceAt wr L D t (diceSs t j k).2 ∧ But D w wr)) (fun _ i _ => n - (intOf i).toNat)
  case atStart => exact ⟨0, by omega, rfl, Lib.hid ⟨World.ownsRow_nil _ _ _ _, H.out, But.refl _ _⟩⟩
  case round =>
    obtain ⟨j, hj, rfl, HQ⟩ := hrel
    have hlen := Lib.hid (diceSs_len t j k)
    by_cases hlt : j < n
    · have hbd := diceV_bd t (diceSs t j k).2 3 (by omega)
      go_wp2_with fail
      refine (next_any L D t (diceSs t j k).2 3 wr HQ.out.2.1 (by omega) (by omega)).mono ?_
      rintro e w2 ⟨rfl, hd, hb⟩
      have ho : IOwn w2 w.heap.size _ (diceSs t j k).1 := own_but HQ.out.1 hb hD
      have hb2 := HQ.out.2.2.trans hb
      have HN : Hid (diceSs t (j + 1) k = (if diceV t (diceSs t j k).2 3 = 0 then (diceSs t j k).1 ++ [(j : Int)] else (diceSs t j k).1, diceK t (diceSs t j k).2)) := Lib.hid rfl
      generalize diceV t (diceSs t j k).2 3 = x at hbd HN ⊢
      have HO := Lib.hid ho; have HD2 := Lib.hid hd; have HB2 := Lib.hid hb2; clear ho hd hb hb2
      by_cases hx : x = 0
      · have g : decide (x = 0) = true := decide_eq_true hx
        have g1 : (x == 0) = true := by simpa using hx
        have HX := Lib.hid hx; clear hx
        go_wp2_with (at_builtin; go_must (refine wpList_app_new w2 rfl (.tmp 15) (.tmp 17) 22 3 rfl w.heap.size Try.underlying22 i64_info rfl _ _ _ HO.out rfl 1 #[.int .i64 j] rfl (by simp [Value.oneCell']) rfl rfl (by have := hlen.out; unfold maxLen; omega) (by have := hlen.out; omega) HB2.out.size ?_); intro v3 w3 ho3 hb3; have HO3 := Lib.hid ho3; have HB3 := Lib.hid hb3; clear ho3 hb3)
        refine ⟨⟨j + 1, by omega, by go_num, Lib.hid ⟨?_, ?_, ?_⟩⟩, by simp [intOf]; omega⟩
        · rw [HN.out, if_pos HX.out]
          unfold IOwn
          rw [intsV_app, List.length_append]
          exact HO3.out
        · rw [HN.out]; exact HD2.out.below HB3.out hD
        · exact HB2.out.grow HB3.out
      · have g : decide (x = 0) = false := decide_eq_false hx
        have g1 : (x == 0) = false := by simpa using hx
        have HX := Lib.hid hx; clear hx
        go_wp2
        refine ⟨⟨j + 1, by omega, by go_num, Lib.hid ⟨?_, ?_, HB2.out⟩⟩, by simp [intOf]; omega⟩
        · rw [HN.out, if_neg HX.out]; exact HO.out
        · rw [HN.out]; exact HD2.out
    · have HJ : Hid (j = n) := by unfold Hid; omega
      go_wp2
      go_ret
      rw [← HJ.out]
      exact ⟨_, rfl, HQ.out.1, HQ.out.2.1, HQ.out.2.2⟩
end Go.Proofs.Ytikmffdmgnjpbaa
/- What the laws of layer 12 keep in memory. -/
namespace Go.Proofs.Ytikmffdmgnjpbaa
open Go.RowKit
/-- What a law of layer 12 keeps in memory: the dice, the graph, the box that holds it. -/
structure DS (w : World) (D P g0 : Nat) (t : List Int) (G : Gr) (A : Option Addr) (n c : Nat) (B : Option Addr) (m k : Nat) (z : World) : Prop where
  dice : ∃ kd, DiceAt z w.heap.size D t kd
  own : GOwn z P G (.agg #[.int .i64 G.sz, .slice A n c, .slice B m k])
  base : Below w.heap.size w z
  box : z.heap[g0]? = some (.cells #[.int .i64 G.sz, .slice A n c, .slice B m k] 29 (0, 0))
  wd : w.heap.size ≤ D
  dp : D < P
  dg : D < g0
section
variable {w : World} {D P g0 : Nat} {t : List Int} {G : Gr} {A : Option Addr} {n c : Nat} {B : Option Addr} {m k : Nat} {z z' : World}
theorem DS.later (h : DS w D P g0 t G A n c B m k z) (hb : Below z.heap.size z z') : DS w D P g0 t G A n c B m k z' :=
  { h with
    dice := by obtain ⟨kd, hk⟩ := h.dice; exact ⟨kd, hk.later hb⟩
    own := h.own.later hb
    base := h.base.trans (hb.mono h.base.size)
    box := (hb.block _ (Array.getElem?_eq_some_iff.1 h.box).1).trans h.box }
theorem DS.gave (h : DS w D P g0 t G A n c B m k z) (hg : Gave w.heap.size D t z z') : DS w D P g0 t G A n c B m k z' :=
  { h with
    dice := hg.1
    own := h.own.but hg.2 h.dp
    base := h.base.trans (hg.2.below h.wd h.base.size)
    box := (hg.2.block g0 (Array.getElem?_eq_some_iff.1 h.box).1 (by have := h.dg; omega)).trans h.box }
theorem DS.drew (h : DS w D P g0 t G A n c B m k z) : DS w D P g0 t G A n c B m k z.drew := h.later (Below.refl _ _).drew
theorem DS.hold (h : DS w D P g0 t G A n c B m k z) : GHold z G (.agg #[.int .i64 G.sz, .slice A n c, .slice B m k]) := h.own.hold
theorem DS.lt (h : DS w D P g0 t G A n c B m k z) : D < z.heap.size := by obtain ⟨kd, hk⟩ := h.dice; exact hk.lt
theorem DS.rows (h : DS w D P g0 t G A n c B m k z) : ERow z A n c G.es ∧ IRow z B m k G.gn := by
  obtain ⟨A2, n2, c2, B2, m2, k2, he, h1, h2⟩ := h.hold
  injection he with he
  simp only [Array.mk.injEq, List.cons.injEq, and_true, true_and, Value.slice.injEq] at he
  obtain ⟨⟨rfl, rfl, rfl⟩, rfl, rfl, rfl⟩ := he
  exact ⟨h1, h2⟩
end
theorem some_g12 (L D : Nat) (t : List Int) (n : Nat) (w : World) (h : ∃ k, DiceAt w L D t k) (hn : n ≤ 100000) :
    Calls Try.prog 12 #[.pointer (some ⟨D, 0, none⟩), .int .i64 n] w fun e w' => ∃ v S, e = .returned v ∧ w'.ownsRow w.heap.size 3 1 v S.length (intsV S) ∧ S.length ≤ n ∧ Gave L D t w w' := by
  obtain ⟨k, hk⟩ := h
  refine (some_any L D t k n w hk hn).mono ?_
  rintro e w' ⟨v, rfl, ho, hd, hb⟩
  exact ⟨v, _, rfl, ho, diceSs_len t n k, ⟨_, hd⟩, hb⟩
end Go.Proofs.Ytikmffdmgnjpbaa
