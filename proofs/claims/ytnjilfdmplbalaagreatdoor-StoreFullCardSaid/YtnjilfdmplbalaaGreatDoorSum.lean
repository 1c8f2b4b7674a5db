/- The walk of digest.Sum. -/
import Derived.Test.YtnjilfdmplbalaaGreatDoorText
namespace Go.Proofs.YtnjilfdmplbalaaGreatDoor
open Go.RowKit
/-- While digest.Sum runs: block g holds the state, and the slice holds the bytes that are left. -/
structure SumInv (w wr : World) (g : Nat) (st : Sha.St) (A : Option Addr) (n c : Nat) (us : List UInt8) : Prop where
  cell : wr.heap[g]? = some (.cells (stV st) 145 (0, 0))
  base : w.heap.size ≤ g
  below : Below w.heap.size w wr
  sl : SliceAt wr A n c us
  off : ∀ ad, A = some ad → 0 < n → ad.block ≠ g
theorem SumInv.lt {w wr : World} {g : Nat} {st : Sha.St} {A : Option Addr} {n c : Nat} {us : List UInt8} (h : SumInv w wr g st A n c us) : g < wr.heap.size := (Array.getElem?_eq_some_iff.1 h.cell).1
theorem SumInv.store {w wr w4 : World} {g : Nat} {st : Sha.St} {A : Option Addr} {n c : Nat} {us : List UInt8} (h : SumInv w wr g st A n c us) (hb : Below wr.heap.size wr w4) (st' : Sha.St) :
    SumInv w (w4.setRow g (stV st')) g st' A n c us := by
  have hg := h.lt
  refine ⟨setRow_heap _ _ _ _ _ _ ((hb.block g hg).trans h.cell), h.base, below_setRow (h.below.trans (hb.mono h.below.size)) h.base _, ?_, h.off⟩
  have h4 := h.sl.below hb
  refine ⟨h4.len, h4.cap, h4.nil, fun ad hA hn => ?_⟩
  obtain ⟨b, off, e, hc⟩ := h4.some_ ad hA hn
  refine ⟨b, off, e, fun i hi => ?_⟩
  rw [cell_setRow_other _ _ _ _ (by have := h.off ad hA hn; subst e; exact this)]
  exact hc i hi
theorem SumInv.cut {w wr : World} {g b off : Nat} {st : Sha.St} {n c : Nat} {us : List UInt8} (h : SumInv w wr g st (some ⟨b, off, none⟩) n c us) (h64 : 64 ≤ n) (A : Option Addr)
    (hA : A = some ⟨b, off, none⟩ ∧ c = 64 ∨ A = some ⟨b, off + 64, none⟩) : SumInv w wr g st A (n - 64) (c - 64) (us.drop 64) := by
  have hcap := h.sl.cap
  refine ⟨h.cell, h.base, h.below, ⟨by rw [List.length_drop, h.sl.len], by omega, fun e => ?_, fun ad e hn => ?_⟩, fun ad e hn => ?_⟩
  · rcases hA with ⟨hA, _⟩ | hA <;> rw [hA] at e <;> cases e
  · rcases hA with ⟨_, hc⟩ | hA
    · omega
    · rw [hA] at e; injection e with e; subst e
      obtain ⟨b', off', e, hc⟩ := h.sl.some_ _ rfl (by omega)
      injection e with e1 e2; subst e1 e2
      refine ⟨b, off + 64, rfl, fun i hi => ?_⟩
      rw [Nat.add_assoc, hc (64 + i) (by omega)]
      simp [List.getElem?_drop]
  · rcases hA with ⟨_, hc⟩ | hA
    · omega
    · rw [hA] at e; injection e with e; subst e
      have := h.off _ rfl (by omega)
      exact this
theorem SumInv.open_ {w wr : World} {g : Nat} {st : Sha.St} {A : Option Addr} {n c : Nat} {us : List UInt8} (h : SumInv w wr g st A n c us) (h64 : 64 ≤ n) :
    ∃ b off, A = some ⟨b, off, none⟩ ∧ b < wr.heap.size ∧ ∀ i, i < 64 → wr.cell? ⟨b, off + i, none⟩ = some (.int .u8 (w8 (Sha.blk us i))) := by
  rcases A with _ | ad
  · have := (h.sl.nil rfl).1; omega
  · obtain ⟨b, off, e, hc⟩ := h.sl.some_ ad rfl (by omega)
    subst e
    exact ⟨b, off, rfl, block_lt_of_cell (hc 0 (by omega)), fun i hi => by rw [Sha.blk_lt _ _ hi]; exact hc i (by omega)⟩
theorem SumInv.begin {w w1 : World} {Z : Array Value} {st : Sha.St} {A : Option Addr} {n c : Nat} {us : List UInt8} (hs : SliceAt w A n c us) (hb : Below w.heap.size w w1) :
    SumInv w ((w1.alloc (.cells Z 145)).setRow w1.heap.size (stV st)) w1.heap.size st A n c us := by
  have h1 := hb.size
  have hb2 : Below w.heap.size w ((w1.alloc (.cells Z 145)).setRow w1.heap.size (stV st)) := below_setRow (hb.alloc h1 _) h1 _
  refine ⟨setRow_heap _ _ _ _ _ _ (heap_alloc_new _ _), h1, hb2, hs.below hb2, fun ad e hn => ?_⟩
  obtain ⟨b, off, e', hc⟩ := hs.some_ ad e hn
  subst e'
  have := block_lt_of_cell (hc 0 hn)
  intro e2
  simp only at this e2
  omega
/-- One round of digest.Sum's loops: a block less, and the state with it mixed in. -/
theorem SumInv.next {w wr w4 : World} {g b off : Nat} {st : Sha.St} {n c q r : Nat} {us : List UInt8} {X : Sha.St × List UInt8} (h : SumInv w wr g st (some ⟨b, off, none⟩) n c us) (h64 : 64 ≤ n)
    (hq : n = 64 * q + r) (hr : r < 64) (he : Sha.eat q us st = X) (hb : Below wr.heap.size wr w4) (A : Option Addr) (n' c' : Nat) (hn' : n' = n - 64) (hc' : c' = c - 64)
    (hA : A = some ⟨b, off, none⟩ ∧ c = 64 ∨ A = some ⟨b, off + 64, none⟩) :
    ∃ q', n' = 64 * q' + r ∧ ∃ us' st', Sha.eat q' us' st' = X ∧ SumInv w (w4.setRow g (stV (Sha.mixL st us))) g st' A n' c' us' := by
  subst hn' hc'
  obtain ⟨q', rfl⟩ : ∃ q', q = q' + 1 := ⟨q - 1, by omega⟩
  exact ⟨q', by omega, us.drop 64, Sha.mixL st us, by rw [← Sha.eat_succ]; exact he, (h.store hb _).cut h64 A hA⟩
/-- The second loop begins: the end of the message, which the call itself has made. -/
theorem SumInv.turn {w wr w5 : World} {g : Nat} {st : Sha.St} {A : Option Addr} {n c : Nat} {us : List UInt8} (h : SumInv w wr g st A n c us) (hb : Below wr.heap.size wr w5)
    {g2 L cap : Nat} {us2 : List UInt8} (hg2 : wr.heap.size ≤ g2) (hL : us2.length = L) (hcap : L ≤ cap) (hc : ∀ i, i < L → w5.cell? ⟨g2, i, none⟩ = some (bv (us2.getD i 0))) :
    SumInv w w5 g st (some ⟨g2, 0, none⟩) L cap us2 := by
  have hg := h.lt
  refine ⟨(hb.block g hg).trans h.cell, h.base, h.below.trans (hb.mono h.below.size), ⟨hL, hcap, (fun e => by cases e), (fun ad e _ => ?_)⟩, (fun ad e _ => ?_)⟩
  · injection e with e; subst e
    exact ⟨g2, 0, rfl, fun i hi => by rw [Nat.zero_add]; exact hc i hi⟩
  · injection e with e; subst e
    simp only
    omega
set_option maxRecDepth 20000 in
set_option maxHeartbeats 1000000 in
theorem sum_any (A : Option Addr) (n c : Nat) (m : List UInt8) (w : World) (hm : SliceAt w A n c m) (hn : n ≤ 4000000) (hr : Rounds w) :
    Calls Tryz.prog 129 #[.slice A n c] w fun e w' => e = .returned (.string (strOf (Sha.textTo (Sha.toL (Sha.eat (if 64 < n % 64 + 9 then 2 else 1) (padTail (Sha.eat (n / 64) m Sha.start).2 n) (Sha.eat (n / 64) m Sha.start).1).1) 8))) ∧ Below w.heap.size w w' := by
  have HM := Lib.hid hm; have HR := Lib.hid hr; clear hm hr
  obtain ⟨X, hX⟩ : ∃ X, X = Sha.eat (n / 64) m Sha.start := ⟨_, rfl⟩
  rw [← hX]
  have HX := Lib.hid hX; clear hX
  obtain ⟨Q2, hQ2⟩ : ∃ Q2, Q2 = if 64 < n % 64 + 9 then 2 else 1 := ⟨_, rfl⟩
  rw [← hQ2]
  have HQ2 := Lib.hid hQ2; clear hQ2
  go_enter Tryz.func129, Tryz.ntmps129
  go_wp2_with (first
    | (go_at_call 139; refine (start_any _).mono ?_; rintro e w1 ⟨rfl, hb1⟩)
    | (refine wpList_store_row rfl 145 (.tmp 3) (.tmp 6) rfl w1.heap.size (stV Sha.start) rfl rfl 145 _ (heap_alloc_new _ _) (by kernel_rfl) rfl (stV_one _) ?_
       refine wpList_any (fun W => Hid (SumInv w W w1.heap.size Sha.start A n c m)) (SumInv.begin HM.out hb1) (fun W2 HI => ?_)))
  clear hb1
  generalize w1.heap.size = g at HI ⊢
  have HN0 := Lib.hid HM.out.cap; have HLEN := Lib.hid HM.out.len
  go_loopw [4] (fun v wr => ∃ q n' c' A', v = .slice A' n' c' ∧ n' ≤ n ∧ Hid (n' = 64 * q + n % 64 ∧ ∃ us st, Sha.eat q us st = X ∧ SumInv w wr g st A' n' c' us)) (fun v _ => match v with | .slice _ l _ => l | _ => 0)
  case atStart => exact ⟨n / 64, n, c, A, rfl, Nat.le_refl _, by omega, m, Sha.start, HX.out.symm, HI.out⟩
  case round =>
    obtain ⟨q, n', c', A', rfl, hle, HI2⟩ := hrel
    clear HI
    by_cases h64 : 64 ≤ n'
    · obtain ⟨hq, us, st, he, hinv⟩ := HI2.out
      clear HI2
      have HQ := Lib.hid hq; have HE := Lib.hid he; clear hq he
      obtain ⟨b, off, rfl, hb, hc⟩ := hinv.open_ h64
      have HV := Lib.hid hinv; have HC := Lib.hid hc; clear hinv hc
      have hn2 : n' ≤ 4000000 := by omega
      have hcap : n' ≤ c' := HV.out.sl.cap
      rcases Decidable.em (c' = 64) with rfl | hc64
      all_goals
        go_wp2_with (first
          | refine wpList_load_row rfl 145 (.tmp 3) rfl g rfl 145 (stV st) (0, 0) _ HV.out.cell Tryz.underlying145 rfl (by kernel_rfl) ?_
          | (go_at_call 140; refine (mix_any b off n' _ st (Sha.blk us) wr h64 hn2 hb HC.out (HR.out.below HV.out.below HR.out.lt)).mono ?_; rintro e w4 ⟨rfl, hb4⟩)
          | refine wpList_store_row rfl 145 (.tmp 3) (.tmp 13) rfl g (stV (Sha.mixL st us)) rfl rfl 145 _ ((hb4.block g HV.out.lt).trans HV.out.cell) (by rw [stV_size]; kernel_rfl) (by rw [stV_size, stV_size]) (stV_one _) ?_)
        first
          | (obtain ⟨q', h1, h2⟩ := HV.out.next h64 HQ.out (Nat.mod_lt _ (by omega)) HE.out hb4 (some ⟨b, off, none⟩) 0 0 (by omega) (by omega) (.inl ⟨rfl, rfl⟩)
             exact ⟨⟨q', 0, 0, _, rfl, by omega, Lib.hid ⟨h1, h2⟩⟩, by simp only []; omega⟩)
          | (obtain ⟨q', h1, h2⟩ := HV.out.next h64 HQ.out (Nat.mod_lt _ (by omega)) HE.out hb4 (some ⟨b, off + 64, none⟩) (n' - 64) (c' - 64) rfl rfl (.inr rfl)
             exact ⟨⟨q', n' - 64, c' - 64, _, rfl, by omega, Lib.hid ⟨h1, h2⟩⟩, by simp only []; omega⟩)
    · have hend : n' = n % 64 ∧ ∃ us st, X = (st, us) ∧ SumInv w wr g st A' n' c' us := by
        obtain ⟨hq, us, st, he, hinv⟩ := HI2.out
        have : q = 0 := by omega
        subst this
        rw [Sha.eat_zero] at he
        exact ⟨by omega, us, st, he.symm, hinv⟩
      clear HI2
      obtain ⟨hn', us, st, hX2, hinv⟩ := hend
      have HV := Lib.hid hinv; have HX2 := Lib.hid hX2; have HN' := Lib.hid hn'; clear hinv hX2 hn'
      have h64' : n' < 64 := by omega
      go_wp2_with (go_at_call 141; refine (padded_any A' n' c' us n wr HV.out.sl h64' (by omega)).mono ?_; rintro e w5 ⟨v5, rfl, ho5, hb5⟩; have HO5 := Lib.hid ho5; clear ho5)
      have hQ2 := HQ2.out
      have hus : us.length = n' := HV.out.sl.len
      have hPL : (padTail us n).length = 64 * Q2 := by rw [padTail_len us n (by omega), hus, HN'.out, hQ2]; split <;> rfl
      have hQ0 : 0 < Q2 := by rw [hQ2]; split <;> omega
      obtain ⟨g2, cap2, hv5, hg2, hg2', hcap2, hmax, hcells⟩ := HO5.out.form (by omega)
      rw [hPL] at hv5 hcap2 hcells
      subst hv5
      have hinv5 := HV.out.turn hb5 hg2 hPL hcap2 hcells
      obtain ⟨P, hP⟩ : ∃ P, P = padTail us n := ⟨_, rfl⟩
      rw [← hP] at hinv5
      obtain ⟨Y, hY⟩ : ∃ Y, Y = Sha.eat Q2 P st := ⟨_, rfl⟩
      have HY := Lib.hid hY; have HP := Lib.hid hP; have HV5 := Lib.hid hinv5
      clear hY hP hQ2 hinv5 hcells hmax hcap2 hg2' hg2 hPL HO5 hus
      obtain ⟨N2, hN2⟩ : ∃ N2, N2 = 64 * Q2 := ⟨_, rfl⟩
      rw [← hN2] at HV5 ⊢
      have HN2 := Lib.hid hN2; clear hN2
      go_loopw [5] (fun v wr => ∃ q n' c' A', v = .slice A' n' c' ∧ n' ≤ 128 ∧ Hid (n' = 64 * q + 0 ∧ ∃ us st, Sha.eat q us st = Y ∧ SumInv w wr g st A' n' c' us)) (fun v _ => match v with | .slice _ l _ => l | _ => 0)
      case atStart => exact ⟨Q2, N2, cap2, _, rfl, by rw [HN2.out]; have := HQ2.out; split at this <;> omega, by rw [HN2.out]; omega, P, st, HY.out.symm, HV5.out⟩
      case round =>
        obtain ⟨q2, n2, c2, A2, rfl, hle2, HI2⟩ := hrel
        clear HV5
        by_cases h0 : 0 < n2
        · obtain ⟨hq, us2, st2, he, hinv⟩ := HI2.out
          clear HI2
          have h64 : 64 ≤ n2 := by omega
          have HQ := Lib.hid hq; have HE := Lib.hid he; clear hq he
          obtain ⟨b, off, rfl, hb, hc⟩ := hinv.open_ h64
          have HVV := Lib.hid hinv; have HC := Lib.hid hc; clear hinv hc
          have hn2 : n2 ≤ 4000000 := by omega
          have hcap : n2 ≤ c2 := HVV.out.sl.cap
          rcases Decidable.em (c2 = 64) with rfl | hc64
          all_goals
            go_wp2_with (first
              | refine wpList_load_row rfl 145 (.tmp 3) rfl g rfl 145 (stV st2) (0, 0) _ HVV.out.cell Tryz.underlying145 rfl (by kernel_rfl) ?_
              | (go_at_call 140; refine (mix_any b off n2 _ st2 (Sha.blk us2) _ h64 hn2 hb HC.out (HR.out.below HVV.out.below HR.out.lt)).mono ?_; rintro e w4 ⟨rfl, hb4⟩)
              | refine wpList_store_row rfl 145 (.tmp 3) (.tmp 27) rfl g (stV (Sha.mixL st2 us2)) rfl rfl 145 _ ((hb4.block g HVV.out.lt).trans HVV.out.cell) (by rw [stV_size]; kernel_rfl) (by rw [stV_size, stV_size]) (stV_one _) ?_)
            first
              | (obtain ⟨q', h1, h2⟩ := HVV.out.next h64 HQ.out (by omega) HE.out hb4 (some ⟨b, off, none⟩) 0 0 (by omega) (by omega) (.inl ⟨rfl, rfl⟩)
                 exact ⟨⟨q', 0, 0, _, rfl, by omega, Lib.hid ⟨h1, h2⟩⟩, by simp only []; omega⟩)
              | (obtain ⟨q', h1, h2⟩ := HVV.out.next h64 HQ.out (by omega) HE.out hb4 (some ⟨b, off + 64, none⟩) (n2 - 64) (c2 - 64) rfl rfl (.inr rfl)
                 exact ⟨⟨q', n2 - 64, c2 - 64, _, rfl, by omega, Lib.hid ⟨h1, h2⟩⟩, by simp only []; omega⟩)
        · have hend : ∃ us2 st2, Y = (st2, us2) ∧ SumInv w wr g st2 A2 n2 c2 us2 := by
            obtain ⟨hq, us2, st2, he, hinv⟩ := HI2.out
            have : q2 = 0 := by omega
            subst this
            rw [Sha.eat_zero] at he
            exact ⟨us2, st2, he.symm, hinv⟩
          clear HI2
          obtain ⟨us2, st2, hY2, hinv⟩ := hend
          have HVV := Lib.hid hinv; have HY2 := Lib.hid hY2; clear hinv hY2
          go_wp2_with (first
            | refine wpList_load_row rfl 145 (.tmp 3) rfl g rfl 145 (stV st2) (0, 0) _ HVV.out.cell Tryz.underlying145 rfl (by kernel_rfl) ?_
            | (go_at_call 142; refine (text_any st2 _).mono ?_; rintro e w6 ⟨rfl, hb6⟩))
          go_ret
          have hfin : Sha.eat Q2 (padTail X.2 n) X.1 = (st2, us2) := by rw [HX2.out, ← HY2.out, HY.out, HP.out]
          refine ⟨?_, HVV.out.below.trans (hb6.mono HVV.out.below.size)⟩
          rw [hfin]
          rfl
end Go.Proofs.YtnjilfdmplbalaaGreatDoor
