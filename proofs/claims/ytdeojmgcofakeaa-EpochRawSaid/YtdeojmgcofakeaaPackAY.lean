import Derived.Test.YtdeojmgcofakeaaPackAX
import Derived.Test.YtdeojmgcofakeaaPackAV
import Derived.Test.YtdeojmgcofakeaaPackAU
import Derived.Test.YtdeojmgcofakeaaPackAC
import Derived.Lib.LazyBuf
/- The walk of slices.stableCmpFunc over statements. -/
namespace Go.Proofs.Ytdeojmgcofakeaa
open Go.Shelf Go.RowKit Go.Lib Go.Sort
variable {P : Program} {α : Type} [Inhabited α]
def st_ren : Go.Shelf.Ren := ⟨fun | 20 => 56 | n => n, fun | 22 => 22 | 24 => 30 | 25 => 52 | 3 => 3 | 0 => 0 | 4 => 4 | n => n, fun | n => n⟩
theorem StP.lays {k : Nat} (L : StP P k) : SlLaysF0.n20 P st_ren := {
  mixed := L.mixed
  f20 := ⟨Try.f56.name, by decide, L.fIns.trans (congrArg some (by kernel_rfl))⟩
  t0 := L.t0
  a0 := L.a0
  z0 := L.z0
  v0 := L.v0
  t3 := L.t3
  a3 := L.a3
  z3 := L.z3
  v3 := L.v3
  t4 := L.t4
  a4 := L.a4
  z4 := L.z4
  v4 := L.v4
  t22 := L.t22
  a22 := L.a22
  z22 := L.z22
  v22 := L.v22
  t25 := L.t25
  a25 := L.a25
  z25 := L.z25
  v25 := L.v25 }
theorem insInner_size {β : Type} [Inhabited β] (lt : β → β → Bool) (a : Nat) : ∀ (j : Nat) (d : Array β), (insInner lt a j d).size = d.size
  | 0, _ => rfl
  | j + 1, d => by
    unfold insInner
    split
    · rw [insInner_size lt a j, swp_size]
    · rfl
theorem insOuter_size {β : Type} [Inhabited β] (lt : β → β → Bool) (a b : Nat) : ∀ (n i : Nat) (d : Array β), b - i = n → (insOuter lt a b i d).size = d.size
  | 0, i, d, h => by rw [insOuter, if_neg (by omega)]
  | n + 1, i, d, h => by rw [insOuter, if_pos (by omega), insOuter_size lt a b n (i + 1) _ (by omega), insInner_size]
theorem insertionSort_size {β : Type} [Inhabited β] (lt : β → β → Bool) (d : Array β) (a b : Nat) : (insertionSort lt d a b).size = d.size := insOuter_size lt a b _ _ d rfl
theorem ins_st (k : Nat) (L : StP P k) (enc : α × Nat → List Value) (cf : α → α → Int) (lt : α → α → Bool) (hlt : ∀ x y, lt x y = decide (cf x y < 0)) (g : Nat) (cb : Array Value) (blk off cap : Nat) (d0 : Array (α × Nat)) (w0 : World)
    (eg : ∀ args w, (callFunc g args).run P w = .ok (.enter g args) w) (hcmp : CmpLays P g cb enc k (fun x y => cf x.1 y.1) blk off d0.size w0)
    (R : RowK enc k w0 blk off d0) (hsz : d0.size ≤ 1000000) (a b : Nat) (d : Array (α × Nat)) (w : World) (hd : d.size = d0.size) (S : SWK enc k w0 blk off d w) (hab : a ≤ b) (hb : b ≤ d0.size) :
    Calls P 56 #[.slice (some ⟨blk, off, none⟩) d0.size cap, .int .i64 a, .int .i64 b, .func (.func g) #[] cb] w fun e w' => e = .returned (.tuple #[]) ∧ SWK enc k w0 blk off (insertionSort (ltp lt) d a b) w' := by
  have hc : CmpLays P g cb enc k (fun x y => cf x.1 y.1) blk off d.size w := fun m os dk hs x y => by
    obtain ⟨m2, os2, he⟩ := S.on R.hblk m dk os hs
    rw [he]
    exact hcmp m2 os2 dk (hs.trans hd) x y
  have h := AnyQ.insertionSortCmpFunc L.lays k L.aE L.zE enc R.hk R.h1 (fun x y => cf x.1 y.1) g cb blk off cap a b d w eg hc (S.holds R.hblk R.hH hd) (S.lt R.hblk) hab (by omega) (by omega)
  have e : ltOf (fun x y : α × Nat => cf x.1 y.1) = ltp lt := by funext x y; unfold ltOf ltp; rw [hlt]
  rw [e, hd] at h
  refine Calls.mono h ?_
  rintro e w' ⟨rfl, n, os, rfl⟩
  exact ⟨rfl, S.on R.hblk n _ os (insertionSort_size (ltp lt) d a b)⟩
set_option maxHeartbeats 8000000 in
set_option maxRecDepth 1000000 in
theorem stable_st (k : Nat) (L : StP P k) (enc : α × Nat → List Value) (cf : α → α → Int) (lt : α → α → Bool) (hlt : ∀ x y, lt x y = decide (cf x y < 0)) (g : Nat) (cb : Array Value) (blk off cap n : Nat) (d : Array (α × Nat)) (w : World)
    (eg : ∀ args w, (callFunc g args).run P w = .ok (.enter g args) w) (hcmp : CmpLays P g cb enc k (fun x y => cf x.1 y.1) blk off d.size w) (hS : SWO lt)
    (R : RowK enc k w blk off d) (hn : d.size = n) (hsz : n ≤ 1000000) (ht : ∀ p, p < n → d[p]!.2 = p) :
    Calls P 42 #[.slice (some ⟨blk, off, none⟩) n cap, .int .i64 n, .func (.func g) #[] cb] w fun e w' => e = .returned (.tuple #[]) ∧ ∃ d', PermIn 0 n d d' ∧ SortedIn (ltt lt) 0 n d' ∧ SWK enc k w blk off d' w' := by
  have IN : Aside _ := ins_st k L enc cf lt hlt g cb blk off cap d w eg hcmp R (by omega)
  have SY : Aside _ := symMerge_st k L enc cf lt hlt g cb blk off cap d w eg hcmp hS R (by omega) 2000000
  rw [hn] at IN SY
  have S0 : Aside (SWK enc k w blk off d w) := SWK.start R.hH
  have HT : Aside (∀ p, p < n → d[p]!.2 = p) := ht
  have HN : Aside (d.size = n) := hn
  have FG := L.fStable
  have ei : ∀ args w, (callFunc 56 args).run P w = .ok (.enter 56 args) w := enters_of L.fIns (by kernel_rfl) rfl
  have es : ∀ args w, (callFunc 57 args).run P w = .ok (.enter 57 args) w := enters_of L.fSym (by kernel_rfl) rfl
  have mixed := L.mixed; have t0 := L.t0; have a0 := L.a0; have z0 := L.z0; have v0 := L.v0; have t3 := L.t3; have a3 := L.a3; have z3 := L.z3; have v3 := L.v3; have t4 := L.t4; have a4 := L.a4; have z4 := L.z4; have v4 := L.v4; have t22 := L.t22; have a22 := L.a22; have z22 := L.z22; have v22 := L.v22; have t25 := L.t25; have a25 := L.a25; have z25 := L.z25; have v25 := L.v25; have t39 := L.t39; have a39 := L.a39; have z39 := L.z39; have v39 := L.v39; have aE := L.aE; have zE := L.zE
  clear L hcmp hlt ht hn R eg
  go_enter FG, Try.ntmps42
  go_wp2
  go_loopg [7, 8] (n + 20) (fun kx va vb wr => ∃ (k1 : Nat) (dk : Array (α × Nat)), va = .int .i64 ((k1 * 20 : Nat) : Int) ∧ vb = .int .i64 ((k1 * 20 + 20 : Nat) : Int) ∧ k1 * 20 ≤ n ∧ n + 20 - k1 * 20 ≤ kx ∧ dk.size = n ∧ Aside (SWK enc k w blk off dk wr) ∧ Aside (Twen lt k1 n d dk ∧ PermIn 0 n d dk))
  case atStart => exact ⟨0, d, rfl, rfl, by omega, by omega, HN.out, S0, Twen.start n d, permIn_refl _ _ _⟩
  case round =>
    clear S0
    obtain ⟨k1, dk, rfl, rfl, hk1, hkx, hds, S1, Q1⟩ := hrel
    obtain ⟨a, ha⟩ : ∃ a, a = k1 * 20 := ⟨_, rfl⟩
    rw [← ha] at hk1 hkx ⊢
    have HA : Aside (a = k1 * 20) := ha
    clear ha
    obtain ⟨b, hb⟩ : ∃ b, b = a + 20 := ⟨_, rfl⟩
    rw [← hb]
    by_cases hl : b ≤ n
    · have e1 : IntKind.i64.wrap ((b : Int) + 20) = ((b + 20 : Nat) : Int) := by rw [IntKind.wrap_i64]; omega
      have hlz : (b : Int) ≤ (n : Int) := by omega
      obtain ⟨c, hc⟩ : ∃ c, c = b + 20 := ⟨_, rfl⟩
      rw [← hc] at e1
      have HB : Aside (b = a + 20 ∧ c = b + 20) := ⟨hb, hc⟩
      clear hb hc
      go_wp2_with fail
      refine (IN.out a b dk wr hds S1.out (by have := HB.out; omega) hl).mono ?_
      rintro e w1 ⟨rfl, hs⟩
      have S2 := Lib.hid hs
      have hq := Q1.out.1.sort hS HT.out (b := b) (by have := HB.out; have := HA.out; omega) hl (by omega) (.inl (by have := HB.out; have := HA.out; omega))
      rw [← HA.out] at hq
      have Q2 := Lib.hid hq
      clear hs hq S1 e1
      go_wp2
      go_roundg (n + 20 - b)
      case measure => have := HB.out; omega
      case rel => exact ⟨k1 + 1, _, by rw [succ_bs, ← HA.out, ← HB.out.1], by rw [succ_bs, ← HA.out, ← HB.out.1]; congr 1, by rw [succ_bs, ← HA.out, ← HB.out.1]; exact hl, by rw [succ_bs, ← HA.out, ← HB.out.1]; exact Nat.le_refl _, by rw [Q2.out.1.1]; exact hds, S2, Q2.out.2, permIn_trans _ _ _ _ _ Q1.out.2 (permIn_mono _ _ a b 0 n (Nat.zero_le _) hl (by omega) Q2.out.1)⟩
    · have hlz : ¬ (b : Int) ≤ (n : Int) := by omega
      have HB : Aside (b = a + 20) := hb
      clear hb
      go_wp2_with fail
      refine (IN.out a n dk wr hds S1.out hk1 (Nat.le_refl _)).mono ?_
      rintro e w1 ⟨rfl, hs⟩
      have S2 := Lib.hid hs
      have hq := Q1.out.1.sort hS HT.out (b := n) (by have := HB.out; have := HA.out; omega) (Nat.le_refl _) (by omega) (.inr ⟨rfl, by have := HB.out; have := HA.out; omega⟩)
      have hd := hq.2.done (by have := HB.out; have := HA.out; omega)
      rw [← HA.out] at hq hd
      have Q2 : Aside (AllB lt 20 n (insertionSort (ltp lt) dk a n) ∧ PermIn 0 n d (insertionSort (ltp lt) dk a n)) := ⟨hd, permIn_trans _ _ _ _ _ Q1.out.2 (permIn_mono _ _ a n 0 n (Nat.zero_le _) (Nat.le_refl _) (by omega) hq.1)⟩
      clear hs hq hd S1 Q1
      generalize insertionSort (ltp lt) dk a n = D at S2 Q2
      clear HA HB hl hlz hkx hk1 hds
      go_wp2
      go_loopg [6] (n + 1) (fun kx vs wr => ∃ (bs : Nat) (dk : Array (α × Nat)), vs = .int .i64 bs ∧ 20 ≤ bs ∧ bs ≤ 2 * n + 20 ∧ n + 1 - bs ≤ kx ∧ Aside (SWK enc k w blk off dk wr) ∧ Aside (AllB lt bs n dk ∧ PermIn 0 n d dk))
      case atStart => exact ⟨20, D, rfl, Nat.le_refl _, by omega, by omega, S2, Q2⟩
      case round =>
        clear S2 Q2
        obtain ⟨bs, dk, rfl, hbs, hbn, hkx, S1, Q1⟩ := hrel
        by_cases hl : bs < n
        · have hlz : (bs : Int) < (n : Int) := by omega
          obtain ⟨bb, hbb⟩ : ∃ bb, bb = 2 * bs := ⟨_, rfl⟩
          have e1 : IntKind.i64.wrap (2 * (bs : Int)) = (bb : Int) := by rw [IntKind.wrap_i64]; omega
          have e2 : IntKind.i64.wrap ((bs : Int) * 2) = (bb : Int) := by rw [IntKind.wrap_i64]; omega
          have HBB : Aside (bb = 2 * bs ∧ 0 < bs ∧ bb ≤ 2 * n) := ⟨hbb, by omega, by omega⟩
          clear hbb
          have HE1 := Lib.hid e1
          have HE2 := Lib.hid e2
          clear e2
          go_wp2
          clear e1
          go_loopg [7, 8] (n + 1) (fun ky va vb wr => ∃ (k1 a : Nat) (dj : Array (α × Nat)), va = .int .i64 a ∧ vb = .int .i64 ((a + bb : Nat) : Int) ∧ a ≤ n ∧ n + 1 - a ≤ ky ∧ Aside (a = k1 * bb) ∧ Aside (SWK enc k w blk off dj wr) ∧ Aside (Half lt bs k1 n dj ∧ PermIn 0 n d dj))
          case atStart => exact ⟨0, 0, dk, rfl, by go_num, Nat.zero_le _, by omega, (show Aside _ from (Nat.zero_mul _).symm), S1, Half.start Q1.out.1, Q1.out.2⟩
          case round =>
            clear S1
            obtain ⟨k1, a, dj, rfl, rfl, han, hky, HA, S2, Q2⟩ := hrel
            obtain ⟨b, hb⟩ : ∃ b, b = a + bb := ⟨_, rfl⟩
            obtain ⟨m, hm⟩ : ∃ m, m = a + bs := ⟨_, rfl⟩
            rw [← hb]
            have em : IntKind.i64.wrap ((a : Int) + (bs : Int)) = (m : Int) := by rw [IntKind.wrap_i64]; omega
            have HB : Aside (b = a + 2 * bs ∧ m = a + bs ∧ a = k1 * (2 * bs) ∧ a < m ∧ m < b) := by
              have h1 := HBB.out
              refine ⟨by omega, hm, by rw [← h1.1]; exact HA.out, by omega, by omega⟩
            by_cases hlb : b ≤ n
            · have hlz2 : (b : Int) ≤ (n : Int) := by omega
              obtain ⟨c, hc⟩ : ∃ c, c = b + bb := ⟨_, rfl⟩
              have e1 := HE1.out
              have e3 : IntKind.i64.wrap ((b : Int) + (bb : Int)) = (c : Int) := by rw [IntKind.wrap_i64]; have := HBB.out; omega
              have HC : Aside (c = b + bb) := hc
              clear hc hb hm
              go_wp2_with fail
              refine (SY.out a m b dj wr (by have := HBB.out; omega) (Q2.out.2.1.trans HN.out) S2.out HB.out.2.2.2.1 HB.out.2.2.2.2 hlb).mono ?_
              rintro e w2 ⟨rfl, d2, hM, hs⟩
              have S3 := Lib.hid hs
              have HM := Lib.hid hM
              clear hs hM S2
              go_wp2
              go_roundg (n + 1 - b)
              case measure => have := HB.out; omega
              case rel =>
                have hB := HB.out
                have hM := HM.out
                have hz : dj.size = n := Q2.out.2.1.trans HN.out
                refine ⟨k1 + 1, b, d2, rfl, by rw [← HC.out], hlb, Nat.le_refl _, (show Aside _ from ?_), S3, (show Aside _ from ⟨?_, ?_⟩)⟩
                · show b = (k1 + 1) * bb
                  rw [succ_bs, HBB.out.1, ← hB.2.2.1]; exact hB.1
                · rw [hB.2.1, hB.1] at hM
                  exact Q2.out.1.step hB.2.2.1 HBB.out.2.1 (by omega) (by omega) hM
                · exact permIn_trans _ _ _ _ _ Q2.out.2 (permIn_mono _ _ a b 0 n (Nat.zero_le _) hlb (by omega) hM.1)
            · have hlz2 : ¬ (b : Int) ≤ (n : Int) := by omega
              clear hb hm
              have e2 := HE2.out
              by_cases hmn : m < n
              · have hmz : (m : Int) < (n : Int) := by omega
                go_wp2_with fail
                refine (SY.out a m n dj wr (by have := HBB.out; omega) (Q2.out.2.1.trans HN.out) S2.out HB.out.2.2.2.1 hmn (Nat.le_refl _)).mono ?_
                rintro e w2 ⟨rfl, d2, hM, hs⟩
                have S3 := Lib.hid hs
                have HM := Lib.hid hM
                clear hs hM S2
                go_wp2
                go_roundg (n + 1 - bb)
                case measure => have := HBB.out; omega
                case rel =>
                  have hB := HB.out
                  have hM := HM.out
                  have hz : dj.size = n := Q2.out.2.1.trans HN.out
                  refine ⟨bb, d2, rfl, by have := HBB.out; omega, by have := HBB.out; omega, Nat.le_refl _, S3, (show Aside _ from ⟨?_, ?_⟩)⟩
                  · rw [hB.2.1] at hM
                    rw [HBB.out.1]
                    exact Q2.out.1.done1 hB.2.2.1 (by omega) (by omega) (by omega) hM
                  · exact permIn_trans _ _ _ _ _ Q2.out.2 (permIn_mono _ _ a n 0 n (Nat.zero_le _) (Nat.le_refl _) (by omega) hM.1)
              · have hmz : ¬ (m : Int) < (n : Int) := by omega
                go_wp2
                go_roundg (n + 1 - bb)
                case measure => have := HBB.out; omega
                case rel =>
                  have hB := HB.out
                  refine ⟨bb, dj, rfl, by have := HBB.out; omega, by have := HBB.out; omega, Nat.le_refl _, S2, (show Aside _ from ⟨?_, Q2.out.2⟩)⟩
                  rw [HBB.out.1]
                  exact Q2.out.1.done2 hB.2.2.1 (by omega)
        · have hlz : ¬ (bs : Int) < (n : Int) := by omega
          go_wp2
          go_end0
          exact ⟨rfl, dk, Q1.out.2, Q1.out.1.sorted (by omega), S1.out⟩
end Go.Proofs.Ytdeojmgcofakeaa
/- slices.SortStableFunc over statements with lists, with epoch's compare. -/
namespace Go.Proofs.Ytdeojmgcofakeaa
open Go.RowKit Go.Shelf Go.Sort
theorem laid_growN {a b : World} (h : Laid a b) : ∃ q os, b = Sort.grow (a.drewN q) os := by
  obtain ⟨h1, h2⟩ := h
  refine ⟨b.drawn - a.drawn, b.heap.extract a.heap.size b.heap.size, ?_⟩
  obtain ⟨ho, ht, hu, hs, hb⟩ := h1
  obtain ⟨bh, bt, bd, bo, bu⟩ := b
  obtain ⟨ah, at', ad, ao, au⟩ := a
  simp only at ho ht hu hs hb h2
  subst ho ht hu
  unfold Sort.grow World.drewN
  simp only
  congr 1
  · apply Array.ext
    · simp; omega
    · intro i h3 h4
      by_cases hi : i < ah.size
      · rw [Array.getElem_append_left hi]
        have := hb i hi
        rw [Array.getElem?_eq_getElem h3, Array.getElem?_eq_getElem hi] at this
        injection this
      · rw [Array.getElem_append_right (by omega), Array.getElem_extract]
        congr 1
        omega
  · omega
theorem stP : StP Try.prog 13 := {
  mixed := by kernel_rfl
  fStable := Try.func42
  fIns := Try.func56
  fSym := Try.func57
  fRot := Try.func67
  fSwr := Try.func71
  t0 := Try.underlying0
  a0 := Try.isAgg0
  z0 := Try.sizeOf0
  v0 := Try.zeroValue0
  t3 := Try.underlying3
  a3 := Try.isAgg3
  z3 := Try.sizeOf3
  v3 := Try.zeroValue3
  t4 := Try.underlying4
  a4 := Try.isAgg4
  z4 := Try.sizeOf4
  v4 := Try.zeroValue4
  t22 := Try.underlying22
  a22 := Try.isAgg22
  z22 := Try.sizeOf22
  v22 := Try.zeroValue22
  t25 := Try.underlying52
  a25 := Try.isAgg52
  z25 := Try.sizeOf52
  v25 := Try.zeroValue52
  t39 := Try.underlying82
  a39 := Try.isAgg82
  z39 := Try.sizeOf82
  v39 := Try.zeroValue82
  aE := Try.isAgg30
  zE := Try.sizeOf30 }
def encG (x : Pl × Nat) : List Value := x.1.cells
theorem cells13P (x : Pl) : x.cells.length = 13 := rfl
theorem plsC_at (l : List Pl) (t : Nat) (h : t < l.length * 13) : (plsC l)[t]? = some ((l.getD (t / 13) noPl).cells.getD (t % 13) undef) := by
  have h1 : t / 13 < l.length := by omega
  have e : t = t / 13 * 13 + t % 13 := by omega
  conv => lhs; rw [e, ← List.getElem?_drop, plsC_drop, List.drop_eq_getElem_cons h1]
  show (Pl.cells l[t / 13] ++ plsC _)[t % 13]? = _
  have e1 : l.getD (t / 13) noPl = l[t / 13] := by rw [List.getD_eq_getElem?_getD, List.getElem?_eq_getElem h1]; rfl
  rw [e1, List.getElem?_append_left (by rw [cells13P]; omega), List.getD_eq_getElem?_getD, List.getElem?_eq_getElem (by rw [cells13P]; omega)]
  rfl
theorem flatG_at (D : Array (Pl × Nat)) (t : Nat) (h : t < D.size * 13) : some ((flatK encG 13 D)[t]!) = (plsC (D.toList.map (·.1)))[t]? := by
  have hl : (D.toList.map (·.1)).length = D.size := by simp
  rw [get_flatK _ _ _ _ h, plsC_at _ t (by rw [hl]; exact h)]
  have h1 : t / 13 < D.size := by omega
  congr 1
  have e1 : (D.toList.map (·.1)).getD (t / 13) noPl = D[t / 13]!.1 := by
    rw [getElem!_pos D (t / 13) h1, List.getD_eq_getElem?_getD, List.getElem?_eq_getElem (by rw [hl]; exact h1), List.getElem_map, Array.getElem_toList]
    rfl
  rw [e1]
  show D[t / 13]!.1.cells[t % 13]! = _
  generalize D[t / 13]!.1 = x
  rw [getElem!_pos x.cells (t % 13) (by rw [cells13P]; omega), List.getD_eq_getElem?_getD, List.getElem?_eq_getElem (by rw [cells13P]; omega)]
  rfl
theorem cmpLaysG (blk off size : Nat) (w : World) : CmpLays Try.prog 32 #[] encG 13 (fun x y => cmpE x.1.s y.1.s) blk off size w := fun m os dk _ x y => by
  refine Calls.mono (compareE_any x.1.s x.1.A x.1.n x.1.c x.1.B x.1.m x.1.k y.1.s y.1.A y.1.n y.1.c y.1.B y.1.m y.1.k _) ?_
  rintro e w' ⟨rfl, h⟩
  exact ⟨rfl, laid_growN h⟩
theorem below_sortG (w : World) (m blk off : Nat) (d : Array (Pl × Nat)) (os : Array Obj) {B : Nat} (hB : B ≤ blk) (hb : B ≤ w.heap.size) : RowKit.Below B w (sortWorldK encG 13 w blk off m d os) := by
  refine ⟨rfl, rfl, rfl, ?_, fun k hk => ?_⟩
  · exact size_sortWorldK_c encG 13 w blk off m d os
  · unfold sortWorldK Sort.grow putRowK putRow mapBlock Sort.ahead
    simp only
    rw [Array.getElem?_append_left (by simp; omega), Array.getElem?_modify, if_neg (by omega)]
theorem keep_sortG (w : World) (m blk off : Nat) (d : Array (Pl × Nat)) (os : Array Obj) (k : Nat) (hk : k < w.heap.size) (hne : k ≠ blk) : (sortWorldK encG 13 w blk off m d os).heap[k]? = w.heap[k]? := by
  unfold sortWorldK Sort.grow putRowK putRow mapBlock Sort.ahead
  simp only
  rw [Array.getElem?_append_left (by simp; omega), Array.getElem?_modify, if_neg (by omega)]
set_option maxHeartbeats 1000000 in
theorem stable_pl (B : Nat) (v : Value) (l : List Pl) (w : World) (ho : LOwn w B v l) (h0 : 0 < l.length) (hn : l.length ≤ 1000000) (hB : B ≤ w.heap.size) :
    ∃ g cap, v = .slice (some ⟨g, 0, none⟩) l.length cap ∧ Calls Try.prog 42 #[v, .int .i64 l.length, .func (.func 32) #[] #[]] w fun e w' => e = .returned (.tuple #[]) ∧ ∃ l', l'.length = l.length ∧ l'.map (·.s) = orderS (l.map (·.s)) ∧ LRow w' (some ⟨g, 0, none⟩) l'.length cap l' ∧ RowKit.Below B w w' := by
  obtain ⟨own, hok⟩ := ho
  obtain ⟨hlen, ⟨rfl, hz⟩ | ⟨g, cap, cur, rfl, hBg, hg, hnc, hcm, hcs, htk⟩⟩ := own
  · omega
  refine ⟨g, cap, rfl, ?_⟩
  obtain ⟨D, hD⟩ : ∃ D, D = l.zipIdx.toArray := ⟨_, rfl⟩
  have hDs : D.size = l.length := by rw [hD]; simp
  have hDm : D.toList.map (·.1) = l := by rw [hD]; exact List.zipIdx_map_fst 0 l
  have hcur : ∀ t, t < l.length * 13 → cur[t]? = (plsC l)[t]? := fun t ht => by
    rw [← htk, List.getElem?_take_of_lt ht]; simp
  have hH : HoldsK encG 13 w g 0 D := by
    intro t ht
    have ht' : t < D.size * 13 := by simpa using ht
    rw [Nat.zero_add]
    refine ⟨?_, ?_⟩
    · have h := flatG_at D t ht'
      rw [hDm] at h
      rw [cell_of_row _ _ _ _ _ _ hg, hcur t (by rw [← hDs]; exact ht'), ← h]; rfl
    · unfold World.frozen?
      rw [hg]
      simp
  have hblk : g < w.heap.size := (Array.getElem?_eq_some_iff.1 hg).1
  have eg : ∀ args w, (callFunc 32 args).run Try.prog w = .ok (.enter 32 args) w := enters_of Try.func32 (by kernel_rfl) rfl
  have hR : RowK encG 13 w g 0 D := ⟨fun x => rfl, fun x u hu => x.1.ones u (by rw [x.1.list]; exact hu), hH, hblk⟩
  have hT : ∀ p, p < l.length → D[p]!.2 = p := fun p hp => by
    rw [getElem!_pos D p (by omega)]
    subst hD
    simp
  have hcon := stable_st 13 stP encG (fun x y => cmpE x.s y.s) ltE (fun x y => (cmpE_neg x.s y.s).symm) 32 #[] g 0 cap l.length D w eg (cmpLaysG g 0 _ w) ltE_swo hR hDs (by omega) hT
  refine Calls.mono hcon ?_
  rintro e w' ⟨rfl, d', hp, hs, m, os, rfl⟩
  have hd's : d'.size = l.length := by rw [hp.1, hDs]
  have hpp : d'.toList.Perm l.zipIdx := by
    have h := hp.2.2
    rw [show d'.extract 0 l.length = d' by rw [← hd's]; simp, show D.extract 0 l.length = D by rw [← hDs]; simp, hD] at h
    exact h
  have hpw : d'.toList.Pairwise leG := by
    refine List.pairwise_iff_getElem.2 fun i j hi hj hij => ?_
    have hj' : j < d'.size := by simpa using hj
    have h := hs i j (Nat.zero_le _) hij (by omega)
    rw [getElem!_pos d' j hj', getElem!_pos d' i (by omega)] at h
    unfold leG
    rw [Array.getElem_toList, Array.getElem_toList]
    exact h
  have hl' : (d'.toList.map (·.1)).length = l.length := by simp [hd's]
  refine ⟨rfl, d'.toList.map (·.1), hl', ?_, ⟨?_, fun p hp' => ?_⟩, below_sortG w m g 0 d' os hBg hB⟩
  · have h := stable_order l d'.toList hpp hpw
    rw [List.map_map]; exact h
  · have hH2 := holdsK_sortWorldK_c encG 13 w g 0 D d' m os hH hblk (by rw [hd's, hDs])
    refine ⟨by rw [plsC_len], by rw [hl']; exact hnc, fun h => (by cases h), fun ad hA _ => ?_⟩
    injection hA with hA
    subst hA
    refine ⟨g, 0, rfl, fun t ht => ?_⟩
    have ht' : t < d'.size * 13 := by rw [hl', ← hd's] at ht; exact ht
    have h := (hH2 t (by simpa using ht')).1
    rw [h]
    exact flatG_at d' t ht'
  · obtain ⟨x, hx, rfl⟩ := List.mem_map.1 hp'
    have hx2 := List.mem_zipIdx_iff_getElem?.1 (hpp.mem_iff.1 hx)
    have hm : x.1 ∈ l := List.mem_of_getElem? hx2
    have h := hok x.1 hm
    exact h.1.keep h.2 fun k hk hne => keep_sortG w m g 0 d' os k hk fun e => hne (by rw [e]; rfl)
end Go.Proofs.Ytdeojmgcofakeaa
/- The walks of slices.Clone and of epoch's Order. -/
namespace Go.Proofs.Ytdeojmgcofakeaa
open Go.RowKit
theorem clone_nil (w : World) : Calls Try.prog 30 #[.slice none 0 0] w fun e w' => e = .returned (.slice none 0 0) ∧ w' = w := by
  have en := fun w a n c => Lib.run_eql_slice_nil (P := Try.prog) w 22 30 a n c 0 0 Try.underlying22
  go_enter Try.func30, Try.ntmps30
  go_wp2
  go_ret
  exact ⟨rfl, rfl⟩
set_option maxRecDepth 100000 in
set_option maxHeartbeats 4000000 in
theorem clone_any (ad : Addr) (n c : Nat) (l : List Pl) (w : World) (hl : LRow w (some ad) n c l) (hn : n ≤ 100000) :
    Calls Try.prog 30 #[.slice (some ad) n c] w fun e w' => ∃ v, e = .returned v ∧ LOwn w' w.heap.size v l ∧ Below w.heap.size w w' := by
  have HL := Lib.hid hl; have HLN := Lib.hid hl.len
  clear hl
  have en := fun w a n c => Lib.run_eql_slice_nil (P := Try.prog) w 22 30 a n c 0 0 Try.underlying22
  go_enter Try.func30, Try.ntmps30
  have HO : Hid ((w.alloc (.cells #[] 30)).ownsRow w.heap.size 30 13 (.slice (some ⟨w.heap.size, 0, none⟩) 0 0) 0 []) := Lib.hid ⟨rfl, .inr ⟨w.heap.size, 0, #[], rfl, Nat.le_refl _, heap_alloc_new _ _, Nat.le_refl _, Nat.zero_le _, rfl, rfl⟩⟩
  have HN := Lib.hid (one_new w (.cells #[] 30))
  have HL2 := Lib.hid (HL.out.later HN.out)
  have HZ := Lib.hid HN.out.size
  have HOK : Hid (∀ p ∈ l, PlOk w p) := Lib.hid HL.out.ok
  obtain ⟨x1, hx1⟩ : ∃ x1, w.alloc (.cells #[] 30) = x1 := ⟨_, rfl⟩
  have HX1 := Lib.hid hx1
  rw [hx1] at HO HN HL2 HZ
  clear hx1
  go_wp2_with (at_builtin; rw [HX1.out]; go_must (refine wpList_app x1 rfl (.tmp 5) (.tmp 6) 22 22 30 rfl w.heap.size Try.underlying22 stm_info rfl _ 0 [] HO.out rfl _ n (plsC l) (Row.src HL2.out.row Try.underlying22 (plsC_one _)) rfl (by unfold maxLen; omega) (by omega) HZ.out ?_); intro v1 z1 ho hb; rw [Nat.zero_add, List.nil_append, ← HLN.out] at ho; have HO2 : Hid (LOwn z1 w.heap.size v1 l) := Lib.hid ⟨ho, fun r hr => ⟨(HOK.out r hr).later (HN.out.trans hb), (HOK.out r hr).clear (own_ge ho)⟩⟩; have HU := Lib.hid (HN.out.trans hb); clear ho hb)
  go_ret
  exact ⟨_, rfl, HO2.out, HU.out⟩
/-- Nothing is ordered. -/
theorem ins_zero (A : Option Addr) (c : Nat) (f : Value) (w : World) : Calls Try.prog 56 #[.slice A 0 c, .int .i64 0, .int .i64 0, f] w fun e w' => e = .returned (.tuple #[]) ∧ w' = w := by
  go_enter Try.func56, Try.ntmps56
  go_wp2
  go_loopg [8] 0 (fun _ vi wr => vi = .int .i64 1 ∧ wr = w)
  case atStart => exact ⟨rfl, rfl⟩
  case round =>
    obtain ⟨rfl, rfl⟩ := hrel
    go_wp2
    go_end0
    exact ⟨rfl, rfl⟩
theorem stable_zero (A : Option Addr) (c : Nat) (f : Value) (w : World) : Calls Try.prog 42 #[.slice A 0 c, .int .i64 0, f] w fun e w' => e = .returned (.tuple #[]) ∧ w' = w := by
  go_enter Try.func42, Try.ntmps42
  go_wp2
  go_loopg [7, 8] 0 (fun _ va vb wr => va = .int .i64 0 ∧ vb = .int .i64 20 ∧ wr = w)
  case atStart => exact ⟨rfl, rfl, rfl⟩
  case round =>
    obtain ⟨rfl, rfl, rfl⟩ := hrel
    go_wp2_with fail
    refine (ins_zero A c f _).mono ?_
    rintro e w1 ⟨rfl, rfl⟩
    go_wp2
    go_loopg [6] 0 (fun _ vs wr => vs = .int .i64 20 ∧ wr = w1)
    case atStart => exact ⟨rfl, rfl⟩
    case round =>
      obtain ⟨rfl, rfl⟩ := hrel
      go_wp2
      go_end0
      exact ⟨rfl, rfl⟩
theorem sort_zero (A : Option Addr) (c : Nat) (f : Value) (w : World) : Calls Try.prog 31 #[.slice A 0 c, f] w fun e w' => e = .returned (.tuple #[]) ∧ w' = w := by
  go_enter Try.func31, Try.ntmps31
  go_wp2_with fail
  refine (stable_zero A c f _).mono ?_
  rintro e w1 ⟨rfl, rfl⟩
  go_wp2
  go_end0
  exact ⟨rfl, rfl⟩
theorem sort_pl (B : Nat) (v : Value) (l : List Pl) (w : World) (ho : LOwn w B v l) (h0 : 0 < l.length) (hn : l.length ≤ 1000000) (hB : B ≤ w.heap.size) :
    ∃ g cap, v = .slice (some ⟨g, 0, none⟩) l.length cap ∧ Calls Try.prog 31 #[v, .func (.func 32) #[] #[]] w fun e w' => e = .returned (.tuple #[]) ∧ ∃ l', l'.length = l.length ∧ l'.map (·.s) = orderS (l.map (·.s)) ∧ LRow w' (some ⟨g, 0, none⟩) l'.length cap l' ∧ RowKit.Below B w w' := by
  obtain ⟨g, cap, rfl, h⟩ := stable_pl B v l w ho h0 hn hB
  refine ⟨g, cap, rfl, ?_⟩
  have H := Lib.hid h
  clear h ho
  go_enter Try.func31, Try.ntmps31
  go_wp2_with fail
  refine H.out.mono ?_
  rintro e w1 ⟨rfl, hq⟩
  have HQ := Lib.hid hq
  clear hq H
  go_wp2
  go_end0
  exact ⟨rfl, HQ.out⟩
theorem order_any (A : Option Addr) (n c : Nat) (l : List Pl) (w : World) (hl : LRow w A n c l) (hn : n ≤ 100000) : Calls Try.prog 15 #[.slice A n c] w (GivesL w (orderS (l.map (·.s)))) := by
  have HLN := Lib.hid hl.len
  have HCL : Hid (Calls Try.prog 30 #[.slice A n c] w fun e w' => ∃ v, e = .returned v ∧ LOwn w' w.heap.size v l ∧ Below w.heap.size w w') := by
    cases A with
    | some ad => exact clone_any ad n c l w hl hn
    | none =>
      obtain ⟨rfl, rfl⟩ := hl.row.nil rfl
      have h0 : l = [] := List.eq_nil_of_length_eq_zero hl.len
      subst h0
      exact (clone_nil w).mono fun e w' ⟨h1, h2⟩ => ⟨_, h1, by rw [h2]; exact LOwn.nil _ _, by rw [h2]; exact Below.refl _ _⟩
  clear hl
  go_enter Try.func15, Try.ntmps15
  go_wp2_with fail
  refine HCL.out.mono ?_
  rintro e w1 ⟨v, rfl, ho, hb⟩
  have HO := Lib.hid ho; have HB := Lib.hid hb
  clear ho hb HCL
  by_cases h0 : l.length = 0
  · obtain ⟨A1, c1, rfl, hr⟩ := HO.out.row
    have HR := Lib.hid hr
    have hl0 : l = [] := List.eq_nil_of_length_eq_zero h0
    clear hr HO
    subst hl0
    go_wp2_with fail
    refine (sort_zero A1 c1 _ w1).mono ?_
    rintro e w2 ⟨rfl, rfl⟩
    go_wp2_with fail
    go_ret
    exact ⟨A1, c1, [], rfl, rfl, HR.out, HB.out⟩
  · obtain ⟨g, cap, rfl, h⟩ := sort_pl w.heap.size v l w1 HO.out (by omega) (by have := HLN.out; omega) HB.out.size
    have H := Lib.hid h
    clear h HO
    go_wp2_with fail
    refine H.out.mono ?_
    rintro e w2 ⟨rfl, l', hln, hm, hr, hb⟩
    have HLL := Lib.hid hln; have HM := Lib.hid hm; have HR := Lib.hid hr; have HB2 := Lib.hid (HB.out.trans hb)
    clear hln hm hr hb H HB
    go_wp2_with fail
    go_ret
    exact ⟨some ⟨g, 0, none⟩, cap, l', by rw [HLL.out]; rfl, HM.out, HR.out, HB2.out⟩
end Go.Proofs.Ytdeojmgcofakeaa
/- What layer 9 gives in the code that landed. -/
namespace Go.Proofs.Ytdeojmgcofakeaa
open Go.RowKit
theorem epochC : EpochC := ⟨eOf_any, eUntil_any, eWindow_any, order_any, eLatest_any⟩
end Go.Proofs.Ytdeojmgcofakeaa
/- The walks of the reference's Latest and Of. -/
namespace Go.Proofs.Ytdeojmgcofakeaa
open Go.RowKit
set_option maxRecDepth 100000 in
set_option maxHeartbeats 4000000 in
theorem refLatest_any (A : Option Addr) (n c : Nat) (l : List Pl) (w : World) (hl : LRow w A n c l) (_hn : n ≤ 100000) :
    Calls Try.prog 18 #[.slice A n c] w (SaysL (.int .i64 (latestS (l.map (·.s)))) w) := by
  have HL := Lib.hid hl; have HLN := Lib.hid hl.len
  have HLS : Hid (latestS (l.map (·.s)) = latestUp (l.map (·.s)) n) := Lib.hid (by unfold latestS; rw [List.length_map, hl.len])
  clear hl
  go_enter Try.func18, Try.ntmps18
  go_wp2_with fail
  go_loopw [3, 4] (fun v i wr => ∃ j : Nat, j ≤ n ∧ i = .int .i64 j ∧ v = .int .i64 (latestUp (l.map (·.s)) j) ∧ Hid (Below w.heap.size w wr)) (fun _ i _ => n - (intOf i).toNat)
  case atStart => exact ⟨0, Nat.zero_le _, rfl, rfl, Lib.hid (Below.refl _ _)⟩
  case round =>
    obtain ⟨j, hj, rfl, rfl, HQ⟩ := hrel
    by_cases hlt : j < n
    · have hlt2 : (j : Int) < (n : Int) := by omega
      obtain ⟨b, off, hA, hc⟩ := (HL.out.later HQ.out).cells j hlt
      subst hA
      have hck : wr.cell? ⟨b, off + j * 13 + 3, none⟩ = some (.int .i64 (l.getD j noPl).s.time) := hc 3 (by rw [Pl.size]; decide)
      have HST : Hid (latestUp (l.map (·.s)) (j + 1) = if j = 0 ∨ latestUp (l.map (·.s)) j < (l.getD j noPl).s.time then (l.getD j noPl).s.time else latestUp (l.map (·.s)) j) := Lib.hid (by rw [latestUp, getD_s])
      clear hc
      generalize (l.getD j noPl).s.time = tv at *
      generalize latestUp (l.map (·.s)) j = lv at *
      by_cases hj0 : j = 0
      · have b0 : ((j : Int) == 0) = true := by rw [hj0]; rfl
        have b1 : (j == 0) = true := by rw [hj0]; rfl
        have HN : Hid (latestUp (l.map (·.s)) (j + 1) = tv) := Lib.hid (by rw [HST.out, if_pos (.inl hj0)])
        clear hj0
        go_wp2_with fail
        exact ⟨⟨j + 1, hlt, by go_num, by rw [HN.out], HQ⟩, by simp [intOf]; omega⟩
      · have b0 : ((j : Int) == 0) = false := by rw [beq_eq_false_iff_ne]; omega
        have b1 : (j == 0) = false := by rw [beq_eq_false_iff_ne]; exact hj0
        by_cases ht : lv < tv
        · have b2 : decide (tv > lv) = true := decide_eq_true ht
          have b3 : decide (lv < tv) = true := decide_eq_true ht
          have HN : Hid (latestUp (l.map (·.s)) (j + 1) = tv) := Lib.hid (by rw [HST.out, if_pos (.inr ht)])
          go_wp2_with fail
          exact ⟨⟨j + 1, hlt, by go_num, by rw [HN.out], HQ⟩, by simp [intOf]; omega⟩
        · have b2 : decide (tv > lv) = false := decide_eq_false ht
          have b3 : decide (lv < tv) = false := decide_eq_false ht
          have HN : Hid (latestUp (l.map (·.s)) (j + 1) = lv) := Lib.hid (by rw [HST.out, if_neg (by omega)])
          go_wp2_with fail
          exact ⟨⟨j + 1, hlt, by go_num, by rw [HN.out], HQ⟩, by simp [intOf]; omega⟩
    · have hlt2 : ¬ (j : Int) < (n : Int) := by omega
      have HE : Hid (j = n) := by unfold Hid; omega
      go_wp2_with fail
      go_ret
      exact ⟨by rw [HLS.out, HE.out]; rfl, HQ.out⟩
set_option maxRecDepth 100000 in
set_option maxHeartbeats 4000000 in
theorem refEOf_any (a b : Int) (w : World) (ha : I64 a) (hb : I64 b) : Calls Try.prog 9 #[.int .i64 a, .int .i64 b] w (SaysL (.int .i64 (epochOf a b)) w) := by
  obtain ⟨ha0, ha1⟩ := ha
  obtain ⟨hb0, hb1⟩ := hb
  have HV : Hid (epochOf a b = if a < 0 ∨ b < 1 then -1 else a / b) := Lib.hid rfl
  generalize epochOf a b = ev at *
  go_enter Try.func9, Try.ntmps9
  by_cases h1 : a < 0
  · have b0 : decide (a < 0) = true := decide_eq_true h1
    rw [if_pos (.inl h1)] at HV
    go_wp2_with fail
    go_ret
    exact ⟨by rw [HV.out]; rfl, Below.refl _ _⟩
  · have b0 : decide (a < 0) = false := decide_eq_false h1
    by_cases h2 : b < 1
    · have b1 : decide (b < 1) = true := decide_eq_true h2
      rw [if_pos (.inr h2)] at HV
      go_wp2_with fail
      go_ret
      exact ⟨by rw [HV.out]; rfl, Below.refl _ _⟩
    · have b1 : decide (b < 1) = false := decide_eq_false h2
      rw [if_neg (by omega)] at HV
      go_wp2_with fail
      go_ret
      exact ⟨by rw [HV.out]; rfl, Below.refl _ _⟩
end Go.Proofs.Ytdeojmgcofakeaa
/- The walk of the law EpochMade, over any program that gives what layer 9 asks. -/
namespace Go.Proofs.Ytdeojmgcofakeaa
open Go.RowKit
theorem refUntil_g (A : Option Addr) (n c : Nat) (l : List Pl) (tm : Int) (w : World) (hl : LRow w A n c l) (hn : n ≤ 100000) (hs : ∀ p ∈ l, Few p.s) : Calls Try.prog 12 #[.slice A n c, .int .i64 tm] w (GivesL w (untilS tm (l.map (·.s)))) :=
  (refUntil_any A n c l tm w hl hn hs).mono fun _ _ h => GivesL.of_own h
theorem refWindow_g (A : Option Addr) (n c : Nat) (l : List Pl) (fr tu : Int) (w : World) (hl : LRow w A n c l) (hn : n ≤ 100000) (hs : ∀ p ∈ l, Few p.s) : Calls Try.prog 14 #[.slice A n c, .int .i64 fr, .int .i64 tu] w (GivesL w (windowS fr tu (l.map (·.s)))) :=
  (refWindow_any A n c l fr tu w hl hn hs).mono fun _ _ h => GivesL.of_own h
theorem until_len (tm : Int) (l : List Stm) : (untilS tm l).length ≤ l.length := List.length_filter_le _ _
theorem window_len (fr tu : Int) (l : List Stm) : (windowS fr tu l).length ≤ l.length := List.length_filter_le _ _
theorem until_mem {tm : Int} {l : List Stm} {s : Stm} (h : s ∈ untilS tm l) : s ∈ l := (List.mem_filter.1 h).1
theorem few_of {l : List Pl} {S X : List Stm} (hX : ∀ s ∈ X, Few s) (hm : l.map (·.s) = S) (hs : ∀ s ∈ S, s ∈ X) : ∀ p ∈ l, Few p.s := fun p hp => hX _ (hs _ (by rw [← hm]; exact List.mem_map_of_mem hp))
set_option maxRecDepth 100000 in
set_option maxHeartbeats 4000000 in
theorem madeE_any (H : EpochC) (TA : Option Addr) (tn tc : Nat) (t : List Int) (v0 : Int) (w : World) (ht : IRow w TA tn tc t) :
    Calls Try.prog 4 #[.slice TA tn tc, .int .i64 v0] w (SaysL (.bool true) w) := by
  have HAW : Hid (∀ y, Below w.heap.size w y → Calls Try.prog 7 #[] y (SaysL (.bool true) y)) := Lib.hid fun y _ => awakeE_any H y
  have HT := Lib.hid ht; clear ht
  go_enter Try.func4, Try.ntmps4
  go_wp2_with fail
  refine (light_any TA tn tc w).mono ?_
  rintro e w0 ⟨rfl, rfl⟩
  by_cases hn : tn ≤ 400
  · have g : decide (tn ≤ 400) = true := decide_eq_true hn
    go_wp2_with fail
    clear g
    refine (roll_any w.heap.size TA tn tc t w HT.out (by omega) (Nat.le_refl _) (fun ad e h0 => Row.lt HT.out (by decide) ad e h0)).mono ?_
    rintro e w1 ⟨rfl, hd, hb⟩
    obtain ⟨D, hD⟩ : ∃ D, D = w.heap.size := ⟨_, rfl⟩
    have HD : Hid (∃ k, DiceAt w1 w.heap.size D t k) := Lib.hid ⟨0, by rw [hD]; exact hd⟩
    have HB := Lib.hid hb
    have HDD : Hid (w.heap.size = D) := Lib.hid hD.symm
    rw [← hD]
    clear hd hb hD HT
    go_wp2_with fail
    refine (dstore_g w.heap.size D t 5 w1 HD.out (by omega)).mono ?_
    rintro e w2 ⟨A2, c2, l2, rfl, hr2, hs2, hl2, hg⟩
    have HB2 := Lib.hid (HB.out.trans (hg.2.below (by have := HDD.out; omega) HB.out.size))
    have HR2 := Lib.hid hr2; have HS2 := Lib.hid hs2
    clear hr2 hs2 hg HB HD HDD
    go_upto_region 5 with (refine wpList_store_new rfl 42 (.tmp 6) (.tmp 18) rfl 42 _ #[.slice A2 l2.length c2] rfl rfl (by kernel_rfl) rfl (by simp [Value.oneCell']) ?_)
    have HNW := Lib.hid (one_new w2 (.cells #[.slice A2 l2.length c2] 42))
    have HX : Hid ((w2.alloc (.cells #[.slice A2 l2.length c2] 42)).heap[w2.heap.size]? = some (.cells #[.slice A2 l2.length c2] 42 (0, 0))) := Lib.hid (heap_alloc_new _ _)
    have HB3 := Lib.hid (HB2.out.trans (HNW.out.mono HB2.out.size)); have HR3 := Lib.hid (HR2.out.later HNW.out)
    clear HNW HB2 HR2
    generalize w2.alloc (.cells #[.slice A2 l2.length c2] 42) = x3 at *
    generalize w2.heap.size = g at *
    go_wp2_with (refine wpList_load_row rfl 42 (.tmp 6) rfl g rfl 42 #[.slice A2 l2.length c2] (0, 0) _ HX.out Try.underlying42 rfl (by kernel_rfl) ?_)
    refine (countedAll_any A2 l2.length c2 l2 x3 HR3.out (by omega) HS2.out).mono ?_
    rintro e w4 ⟨v, l, rfl, hm, ho, hb⟩
    obtain ⟨A, c, hv, hr⟩ := ho.row
    subst hv
    have HL := Lib.hid hr
    have HB := Lib.hid (HB3.out.trans (hb.mono HB3.out.size))
    obtain ⟨S, hS⟩ : ∃ S, countedAll (l2.map (·.s)) = S := ⟨_, rfl⟩
    have HSE : Hid (l.map (·.s) = S) := Lib.hid (by rw [hm, hS])
    have HFW : Hid (∀ s ∈ S, Few s) := Lib.hid fun s hs => by
      rw [← hS] at hs
      obtain ⟨p, hp, he⟩ := List.mem_map.1 (countedAll_mem hs)
      rw [← he]; exact (HS2.out p hp).few
    have HLK : Hid (Linked none S) := Lib.hid (by rw [← hS]; exact countedAll_linked _)
    have HCK : Hid (∀ s ∈ S, 0 ≤ s.time ∧ s.time ≤ 2147483648 ∧ 0 ≤ s.number ∧ s.number ≤ 199) := Lib.hid fun s hs => by rw [← hS] at hs; exact check_bounds (counted_check hs)
    have HSL : Hid (S.length = l.length) := Lib.hid (by rw [← HSE.out, List.length_map])
    have hln : l.length ≤ 100000 := by
      have h1 := countedUp_len (l2.map (·.s)) 64
      rw [List.length_map] at h1
      have h2 := congrArg List.length hm
      rw [List.length_map] at h2
      have h3 : (countedAll (l2.map (·.s))).length = (countedUp (l2.map (·.s)) 64).length := rfl
      omega
    have HFP : Hid (∀ p ∈ l, Few p.s) := Lib.hid (few_of HFW.out HSE.out fun _ h => h)
    clear hm ho hb hr hS HX HR3 HS2 HB3 hl2
    go_wp2_with fail
    refine (mod_any v0 60 w4 (by omega) (by omega)).mono ?_
    rintro e w5 ⟨rfl, rfl⟩
    have hx := modF_bd v0 60 (by omega)
    generalize modF v0 60 = x at *
    have hx0 := hx.1; have hx1 := hx.2
    clear hx
    go_wp2_with fail
    refine (H.upto A l.length c l x w4 HL.out hln).mono ?_
    rw [HSE.out]
    rintro e wa1 ⟨A5, c5, l5, rfl, hm5, hr5, hb⟩
    have HLA := Lib.hid (HL.out.later hb); have HBA := Lib.hid (HB.out.trans (hb.mono HB.out.size)); have HR5 := Lib.hid hr5; have HM5 := Lib.hid hm5
    have hl5 : l5.length ≤ l.length := by have h1 := map_len hm5; have h2 := until_len x S; rw [HSL.out] at h2; omega
    clear hm5 hr5 hb HL HB
    go_wp2_with fail
    refine (refUntil_g A l.length c l x wa1 HLA.out hln HFP.out).mono ?_
    rw [HSE.out]
    rintro e wb1 ⟨A6, c6, l6, rfl, hm6, hr6, hb⟩
    have HLB := Lib.hid (HLA.out.later hb); have HBB := Lib.hid (HBA.out.trans (hb.mono HBA.out.size)); have HSM := Lib.hid (sameList_few A5 l5.length c5 l5 A6 l6.length c6 l6 wb1 (HR5.out.later hb) hr6 (by omega) (few_of HFW.out HM5.out (fun _ h => until_mem h)))
    rw [HM5.out, hm6, sameLB_self] at HSM
    clear hm6 hr6 hb HLA HBA HR5 HM5 hl5
    go_wp2_with fail
    refine HSM.out.mono ?_
    clear HSM
    rintro e wc1 ⟨rfl, hb⟩
    have HL := Lib.hid (HLB.out.later hb); have HB := Lib.hid (HBB.out.trans (hb.mono HBB.out.size))
    clear hb HLB HBB
    go_wp2_with fail
    refine (H.order A l.length c l wc1 HL.out hln).mono ?_
    rw [HSE.out]
    rintro e wa2 ⟨A5, c5, l5, rfl, hm5, hr5, hb⟩
    have HLA := Lib.hid (HL.out.later hb); have HBA := Lib.hid (HB.out.trans (hb.mono HB.out.size)); have HR5 := Lib.hid hr5; have HM5 := Lib.hid hm5
    have hl5 : l5.length ≤ l.length := by have h1 := map_len hm5; have h2 := Nat.le_of_eq (orderS_len S); rw [HSL.out] at h2; omega
    clear hm5 hr5 hb HL HB
    go_wp2_with fail
    refine (refOrder_any A l.length c l wa2 HLA.out hln HFP.out).mono ?_
    rw [HSE.out]
    rintro e wb2 ⟨A6, c6, l6, rfl, hm6, hr6, hb⟩
    have HLB := Lib.hid (HLA.out.later hb); have HBB := Lib.hid (HBA.out.trans (hb.mono HBA.out.size)); have HSM := Lib.hid (sameList_few A5 l5.length c5 l5 A6 l6.length c6 l6 wb2 (HR5.out.later hb) hr6 (by omega) (few_of HFW.out HM5.out (fun s h => (orderS_mem S s).1 h)))
    rw [HM5.out, hm6, sameLB_self] at HSM
    clear hm6 hr6 hb HLA HBA HR5 HM5 hl5
    go_wp2_with fail
    refine HSM.out.mono ?_
    clear HSM
    rintro e wc2 ⟨rfl, hb⟩
    have HL := Lib.hid (HLB.out.later hb); have HB := Lib.hid (HBB.out.trans (hb.mono HBB.out.size))
    clear hb HLB HBB
    go_wp2_with fail
    refine (H.window A l.length c l x (x + 9) wc2 HL.out hln).mono ?_
    rw [HSE.out]
    rintro e wa3 ⟨A5, c5, l5, rfl, hm5, hr5, hb⟩
    have HLA := Lib.hid (HL.out.later hb); have HBA := Lib.hid (HB.out.trans (hb.mono HB.out.size)); have HR5 := Lib.hid hr5; have HM5 := Lib.hid hm5
    have hl5 : l5.length ≤ l.length := by have h1 := map_len hm5; have h2 := window_len x (x + 9) S; rw [HSL.out] at h2; omega
    clear hm5 hr5 hb HL HB
    go_wp2_with fail
    refine (refWindow_g A l.length c l x (x + 9) wa3 HLA.out hln HFP.out).mono ?_
    rw [HSE.out]
    rintro e wb3 ⟨A6, c6, l6, rfl, hm6, hr6, hb⟩
    have HLB := Lib.hid (HLA.out.later hb); have HBB := Lib.hid (HBA.out.trans (hb.mono HBA.out.size)); have HSM := Lib.hid (sameList_few A5 l5.length c5 l5 A6 l6.length c6 l6 wb3 (HR5.out.later hb) hr6 (by omega) (few_of HFW.out HM5.out (fun _ h => (window_mem h).1)))
    rw [HM5.out, hm6, sameLB_self] at HSM
    clear hm6 hr6 hb HLA HBA HR5 HM5 hl5
    go_wp2_with fail
    refine HSM.out.mono ?_
    clear HSM
    rintro e wc3 ⟨rfl, hb⟩
    have HL := Lib.hid (HLB.out.later hb); have HB := Lib.hid (HBB.out.trans (hb.mono HBB.out.size))
    clear hb HLB HBB
    go_wp2_with fail
    refine (H.upto A l.length c l x wc3 HL.out hln).mono ?_
    rw [HSE.out]
    rintro e w9 ⟨A9, c9, l9, rfl, hm9, hr9, hb⟩
    have HL9 := Lib.hid (HL.out.later hb); have HB9 := Lib.hid (HB.out.trans (hb.mono HB.out.size)); have HR9 := Lib.hid hr9; have HM9 := Lib.hid hm9
    have hl9 : l9.length = (untilS x S).length := map_len hm9
    have hl9b : l9.length ≤ l.length := by have h2 := until_len x S; rw [HSL.out] at h2; omega
    have HNX : Hid (∀ i, i < l9.length → 0 < (l9.getD i noPl).s.number → 0 < i ∧ (l9.getD (i - 1) noPl).s.author = (l9.getD i noPl).s.author ∧ (l9.getD (i - 1) noPl).s.number = (l9.getD i noPl).s.number - 1) := Lib.hid fun i hi h0 => by
      have h1 : Linked none (untilS x S) := HLK.out.until x fun _ h _ => h
      rw [← getD_s, HM9.out] at h0
      rcases h1.at i (by omega) h0 with ⟨_, p, hp, _⟩ | ⟨h2, h3, h4⟩
      · cases hp
      · rw [← getD_s, ← getD_s, HM9.out]
        exact ⟨h2, h3, h4⟩
    have HNB : Hid (∀ i, i < l9.length → 0 ≤ (l9.getD i noPl).s.number ∧ (l9.getD i noPl).s.number ≤ 199) := Lib.hid fun i hi => by
      have h1 : (l9.getD i noPl).s ∈ untilS x S := by rw [← HM9.out]; exact List.mem_map_of_mem (HR9.out.get i hi)
      have h2 := HCK.out _ (until_mem h1)
      exact ⟨h2.2.2.1, h2.2.2.2⟩
    have HHL := Lib.hid hl9
    clear hm9 hr9 hb HL HB hl9 HM9
    go_wp2_with fail
    go_loopw [10] (fun i10 wr => ∃ i : Nat, i ≤ l9.length ∧ i10 = .int .i64 i ∧ Hid (Below w.heap.size w wr ∧ Below w9.heap.size w9 wr)) (fun i10 _ => l9.length - (intOf i10).toNat)
    case atStart => exact ⟨0, Nat.zero_le _, rfl, Lib.hid ⟨HB9.out, Below.refl _ _⟩⟩
    case round =>
      obtain ⟨i, hi, rfl, HQ⟩ := hrel
      clear HB9
      by_cases hil : i < l9.length
      · have hil2 : (i : Int) < (l9.length : Int) := by omega
        go_wp2_with fail
        refine wp_region_grow (by kernel_rfl) Later Later.refl (fun _ _ _ => Later.trans) [0, 1, 2, 3, 4, 5, 6, 7, 8, 9, 10, 11, 12, 13, 14, 15, 16, 17, 18, 19, 20, 21, 22, 23, 24, 25, 26, 27, 28, 29, 30, 31, 32, 33, 34, 35, 36, 37, 38] [] (by kernel_rfl) (by kernel_rfl) (by kernel_rfl) ?_
        simp only [List.map_cons, List.map_nil, pick, List.getD_cons_zero, List.getD_cons_succ]
        have HB7 : Hid (Below w.heap.size w wr.drew) := Lib.hid HQ.out.1.drew
        have HC7 : Hid (Below w9.heap.size w9 wr.drew) := Lib.hid HQ.out.2.drew
        clear HQ
        generalize wr.drew = z0 at *
        obtain ⟨b, off, hA, hf⟩ := LRow.futs (F := Later) Later.refl (fun _ h => h) (HR9.out.later HC7.out) i hil
        subst hA
        have hf0 : ∀ y, (fut Later z0 y).cell? ⟨b, off + i * 13, none⟩ = some (.int .i64 (l9.getD i noPl).s.author) := fun y => hf y 0 (by rw [Pl.size]; decide)
        have hf1 : ∀ y, (fut Later z0 y).cell? ⟨b, off + i * 13 + 1, none⟩ = some (.int .i64 (l9.getD i noPl).s.number) := fun y => hf y 1 (by rw [Pl.size]; decide)
        clear hf
        have HN := Lib.hid (HNX.out i hil); have HZ := Lib.hid (HNB.out i hil)
        by_cases hnum : 0 < (l9.getD i noPl).s.number
        · obtain ⟨hi0, ha, hnn⟩ := HN.out hnum
          obtain ⟨b2, off2, hA2, hg⟩ := LRow.futs (F := Later) Later.refl (fun _ h => h) (HR9.out.later HC7.out) (i - 1) (by omega)
          injection hA2 with hA2
          injection hA2 with h1 h2
          subst h1 h2
          have hg0 : ∀ y, (fut Later z0 y).cell? ⟨b, off + (i - 1) * 13, none⟩ = some (.int .i64 (l9.getD (i - 1) noPl).s.author) := fun y => hg y 0 (by rw [Pl.size]; decide)
          have hg1 : ∀ y, (fut Later z0 y).cell? ⟨b, off + (i - 1) * 13 + 1, none⟩ = some (.int .i64 (l9.getD (i - 1) noPl).s.number) := fun y => hg y 1 (by rw [Pl.size]; decide)
          clear hg
          rw [ha] at hg0
          rw [hnn] at hg1
          clear ha hnn HN
          have hz0 := HZ.out.1; have hz1 := HZ.out.2
          generalize (l9.getD i noPl).s.number = nu at *
          generalize (l9.getD i noPl).s.author = au at *
          have b0 : decide (nu > 0) = true := decide_eq_true hnum
          have b1 : ((i : Int) == 0) = false := by rw [beq_eq_false_iff_ne]; omega
          have b2 : (i == 0) = false := by rw [beq_eq_false_iff_ne]; omega
          have e0 : (0 : Int) ≤ (i : Int) - 1 := by omega
          have e1 : (i : Int) - 1 < (l9.length : Int) := by omega
          have e2 : ((i : Int) - 1).toNat = i - 1 := by omega
          have hw1 : wrap64 (nu - 1) = nu - 1 := wrap64_id7 _ (by omega)
          refine wpGrow_nil ?_
          repeat (go_big_quiet_step (fail))
          refine wpQuiet_nil ?_
          clear hf0 hf1 hg0 hg1
          go_wp2_with fail
          exact ⟨⟨i + 1, by omega, by go_num, Lib.hid ⟨HB7.out, HC7.out⟩⟩, by simp [intOf]; omega⟩
        · generalize (l9.getD i noPl).s.number = nu at *
          generalize (l9.getD i noPl).s.author = au at *
          have b0 : decide (nu > 0) = false := decide_eq_false hnum
          have b3 : decide (0 < nu) = false := decide_eq_false hnum
          clear HN
          refine wpGrow_nil ?_
          repeat (go_big_quiet_step (fail))
          refine wpQuiet_nil ?_
          clear hf0 hf1
          go_wp2_with fail
          exact ⟨⟨i + 1, by omega, by go_num, Lib.hid ⟨HB7.out, HC7.out⟩⟩, by simp [intOf]; omega⟩
      · have hil2 : ¬ (i : Int) < (l9.length : Int) := by omega
        go_wp2_with fail
        refine (HAW.out wr HQ.out.1).mono ?_
        rintro e w10 ⟨rfl, hb⟩
        have HB10 := Lib.hid (HQ.out.1.trans (hb.mono HQ.out.1.size)); have HC10 := Lib.hid (HQ.out.2.trans (hb.mono HQ.out.2.size))
        clear hb HQ
        have hx9 : wrap64 (x + 1) = x + 1 := wrap64_id7 _ (by omega)
        go_wp2_with fail
        refine (H.upto A l.length c l (x + 1) w10 (HL9.out.later HC10.out) hln).mono ?_
        rw [HSE.out]
        rintro e w11 ⟨A11, c11, l11, rfl, hm11, -, hb⟩
        have HB11 := Lib.hid (HB10.out.trans (hb.mono HB10.out.size)); have HC11 := Lib.hid (HC10.out.trans (hb.mono HC10.out.size))
        have hge : l9.length ≤ l11.length := by rw [HHL.out, map_len hm11]; exact until_mono (by omega) S
        have b4 : decide ((l11.length : Int) ≥ (l9.length : Int)) = true := decide_eq_true (by omega)
        have b5 : (l9.length : Int) ≤ (l11.length : Int) := by omega
        clear hb hm11 HB10 HC10
        go_wp2_with fail
        refine (H.window A l.length c l (x + 1) 2147483648 w11 (HL9.out.later HC11.out) hln).mono ?_
        rw [HSE.out]
        rintro e w12 ⟨A12, c12, l12, rfl, hm12, -, hb⟩
        have HB12 := Lib.hid (HB11.out.trans (hb.mono HB11.out.size))
        have hsum : l9.length + l12.length = l.length := by rw [HHL.out, map_len hm12, until_window x S fun s hs => (HCK.out s hs).2.1, HSL.out]
        have hw2 : wrap64 ((l9.length : Int) + (l12.length : Int)) = (l.length : Int) := by rw [wrap64_id7 _ (by omega)]; omega
        have hw3 : (l9.length : Int) + (l12.length : Int) = (l.length : Int) := by omega
        clear hb hm12 HB11 HC11
        go_wp2_with fail
        go_ret
        exact ⟨rfl, HB12.out⟩
  · have g : decide (tn ≤ 400) = false := decide_eq_false hn
    go_wp2_with fail
    clear g
    refine (HAW.out w (Below.refl _ _)).mono ?_
    rintro e w1 ⟨rfl, hb⟩
    have HB := Lib.hid hb; clear hb
    go_wp2_with fail
    go_ret
    exact ⟨rfl, HB.out⟩
end Go.Proofs.Ytdeojmgcofakeaa
