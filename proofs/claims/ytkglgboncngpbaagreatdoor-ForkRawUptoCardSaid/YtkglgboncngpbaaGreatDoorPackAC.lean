import Derived.Test.YtkglgboncngpbaaGreatDoorPackAB
import Derived.Test.YtkglgboncngpbaaGreatDoorPackAA
import Derived.Lib.Hide
import Derived.Outline
import Derived.Laws.StructEq
import Derived.KernelRfl
import Derived.Test.YtkglgboncngpbaaGreatDoorRows
import Derived.WalkKit
import Derived.BigQuiet
/- The walks of digest.appendWide and digest.padded. -/
namespace Go.Proofs.YtkglgboncngpbaaGreatDoor
open Go.RowKit
set_option maxHeartbeats 400000 in
theorem appendWide_any (B : Nat) (v : Value) (l : List UInt8) (x : Nat) (w : World) (hown : Owns w B 5 v l) (hB : B ≤ w.heap.size) (hl : l.length ≤ 900000000) :
    Calls Tryz.prog 143 #[v, .int .u64 x] w fun e w' => ∃ v', e = .returned v' ∧ Owns w' B 5 v' (l ++ wide x) ∧ Below B w w' := by
  have HOWN := Lib.hid hown; clear hown
  go_enter Tryz.func143, Tryz.ntmps143
  go_wp2
  go_loopw [0, 5] (fun v i wr => ∃ k : Nat, k ≤ 8 ∧ i = .int .i64 (56 - 8 * (k : Int)) ∧ Hid (Owns wr B 5 v (l ++ wideTo x k) ∧ Below B w wr)) (fun _ i _ => (intOf i + 8).toNat)
  case atStart => exact ⟨0, by omega, by go_num, by simpa [wideTo] using HOWN.out, Below.refl _ _⟩
  case round =>
    obtain ⟨k, hk, rfl, HI⟩ := hrel
    have hlen : (l ++ wideTo x k).length + 1 ≤ 1000000000 := by rw [List.length_append, wideTo_len]; omega
    have HLEN := Lib.hid hlen; clear hlen
    by_cases hlt : k < 8
    · have hsh := wideAt_eq x k
      have h0 : (0 : Int) ≤ 56 - 8 * (k : Int) := by omega
      have hBr : B ≤ wr.heap.size := by have := HI.out.2.size; omega
      go_wp2_with (at_builtin; go_must (refine wpList_push wr rfl (.tmp 10) (.tmp 15) 30 5 rfl B Tryz.underlying30 u8_info _ (l ++ wideTo x k) HI.out.1 rfl 1 [wideAt x k] rfl _ rfl rfl HLEN.out hBr ?_); intro v' w' hown' hb')
      exact ⟨⟨k + 1, by omega, by go_num, by rw [wideTo_succ, ← List.append_assoc]; exact ⟨hown', HI.out.2.trans hb'⟩⟩, by simp [intOf]; omega⟩
    · go_wp2
      go_ret
      have hk8 : k = 8 := by omega
      subst hk8
      exact ⟨_, rfl, HI.out⟩
/-- The end of a message: what is left of it, a 1, zeros, and its length in bits. -/
def zerosFor (n : Nat) : Nat := if 64 < n + 9 then 119 - n else 55 - n
def padTail (r : List UInt8) (size : Nat) : List UInt8 := r ++ [128] ++ List.replicate (zerosFor r.length) 0 ++ wide (8 * size)
theorem padTail_len (r : List UInt8) (size : Nat) (h : r.length < 64) : (padTail r size).length = if 64 < r.length + 9 then 128 else 64 := by
  simp only [padTail, List.length_append, List.length_replicate, List.length_cons, List.length_nil, wide, wideTo_len, zerosFor]; split <;> omega
set_option maxRecDepth 20000 in
set_option maxHeartbeats 1000000 in
theorem padded_at (whole : Nat) (A : Option Addr) (n c : Nat) (r : List UInt8) (size : Nat) (w : World) (hr : SliceAt w A n c r) (hn : n < 64) (hs : size ≤ 1000000000)
    (hw : 64 < n + 9 ∧ whole = 128 ∨ ¬ 64 < n + 9 ∧ whole = 64) :
    Calls Tryz.prog 127 #[.slice A n c, .int .i64 size] w fun e w' => ∃ v', e = .returned v' ∧ Owns w' w.heap.size 5 v' (padTail r size) ∧ Below w.heap.size w w' := by
  have HR := Lib.hid hr; have HN := Lib.hid hr.len; clear hr
  rcases hw with ⟨hbig, rfl⟩ | ⟨hbig, rfl⟩
  all_goals
    go_enter Tryz.func127, Tryz.ntmps127
    go_wp2_with (first
      | (at_make; refine wpList_room' _ rfl (.const (.int .i64 0)) (.tmp 12) 30 5 rfl w.heap.size Tryz.underlying30 u8_info 128 rfl rfl rfl (by omega) (Nat.le_refl _) ?_; intro v1 w1 ho1 hb1; have HO1 := Lib.hid ho1; clear ho1)
      | (at_make; refine wpList_room' _ rfl (.const (.int .i64 0)) (.tmp 12) 30 5 rfl w.heap.size Tryz.underlying30 u8_info 64 rfl rfl rfl (by omega) (Nat.le_refl _) ?_; intro v1 w1 ho1 hb1; have HO1 := Lib.hid ho1; clear ho1)
      | (at_builtin; refine wpList_spread _ rfl (.tmp 14) (.tmp 15) 30 5 rfl w.heap.size Tryz.underlying30 u8_info v1 [] HO1.out rfl A n c r (HR.out.below hb1) rfl (by simp; omega) hb1.size ?_; intro v2 w2 ho2 hb2; have HO2 := Lib.hid ho2; clear ho2)
      | (at_builtin; refine wpList_push w2 rfl (.tmp 17) (.tmp 18) 30 5 rfl w.heap.size Tryz.underlying30 u8_info v2 ([] ++ r) HO2.out rfl 1 [128] rfl _ rfl rfl (by rw [List.nil_append, HN.out]; omega) (by have := hb1.size; have := hb2.size; omega) ?_; intro v3 w3 ho3 hb3; have HO3 := Lib.hid ho3; clear ho3))
    go_loopw [6] (fun v wr => ∃ k : Nat, k ≤ zerosFor n ∧ Hid (Owns wr w.heap.size 5 v (r ++ [128] ++ List.replicate k 0) ∧ Below w.heap.size w wr)) (fun v _ => match v with | .slice _ l _ => 128 - l | _ => 0)
    case atStart => exact ⟨0, Nat.zero_le _, by simpa using HO3.out, (hb1.trans hb2).trans hb3⟩
    case round =>
      obtain ⟨k, hk, HI⟩ := hrel
      have HK := Lib.hid hk
      have hlen : (r ++ [128] ++ List.replicate k (0 : UInt8)).length = n + 1 + k := by simp [HN.out]; omega
      obtain ⟨g, cap, hv, hg1, hg2, hg3, hg4, -⟩ := HI.out.1.form (by omega)
      rw [hlen] at hv hg3
      subst hv
      clear hg4 hk
      have HL := Lib.hid hlen; clear hlen
      have HZ : Hid (zerosFor n = if 64 < n + 9 then 119 - n else 55 - n) := Lib.hid rfl
      by_cases hz : k < zerosFor n
      · have hlow : n + 1 + k < 120 ∧ 64 < n + 9 ∨ n + 1 + k < 56 ∧ ¬ 64 < n + 9 := by rw [HZ.out] at hz; split at hz <;> omega
        have HW := Lib.hid hlow; clear hlow
        first
          | have hlt : n + 1 + k < 56 := by have := HW.out; omega
          | have hlt : n + 1 + k < 120 := by have := HW.out; omega
        have HZK := Lib.hid hz; clear hz
        have hsz : (r ++ [128] ++ List.replicate k (0 : UInt8)).length + 1 ≤ 1000000000 := by rw [HL.out]; omega
        have HS := Lib.hid hsz; clear hsz
        go_wp2_with (at_builtin; refine wpList_push wr rfl (.tmp 25) (.tmp 26) 30 5 rfl w.heap.size Tryz.underlying30 u8_info _ _ HI.out.1 rfl 1 [0] rfl _ rfl rfl HS.out HI.out.2.size ?_; intro v' w' hown' hb')
        refine ⟨⟨k + 1, HZK.out, ?_, HI.out.2.trans hb'⟩, ?_⟩
        · rw [List.replicate_succ', ← List.append_assoc]; exact hown'
        · have hl2 : (r ++ [128] ++ List.replicate k (0 : UInt8) ++ [0]).length = n + 1 + k + 1 := by rw [List.length_append, HL.out]; rfl
          obtain ⟨g', cap', hv', _⟩ := hown'.form (by omega)
          subst hv'
          simp only [hl2]
          omega
      · have HE : Hid (k = zerosFor n) := by have := HK.out; unfold Hid; omega
        have hlow : 120 ≤ n + 1 + k ∧ 64 < n + 9 ∨ 56 ≤ n + 1 + k ∧ ¬ 64 < n + 9 := by have h1 := HE.out; rw [HZ.out] at h1; split at h1 <;> omega
        have HW := Lib.hid hlow; clear hlow
        first
          | have hge : (120 : Int) ≤ (n : Int) + 1 + k := by have := HW.out; omega
          | have hge : (56 : Int) ≤ (n : Int) + 1 + k := by have := HW.out; omega
        go_wp2_with fail
        rw [show ((size : Int) * 8) = ((8 * size : Nat) : Int) from by omega]
        refine (appendWide_any w.heap.size _ _ (8 * size) wr HI.out.1 HI.out.2.size (by rw [HL.out]; have := HE.out; rw [HZ.out] at this; split at this <;> omega)).mono ?_
        rintro e w4 ⟨v4, rfl, ho4, hb4⟩
        have HO4 := Lib.hid ho4; clear ho4
        go_wp2
        go_ret
        exact ⟨_, rfl, by unfold padTail; rw [HN.out, ← HE.out]; exact HO4.out, HI.out.2.trans hb4⟩
theorem padded_any (A : Option Addr) (n c : Nat) (r : List UInt8) (size : Nat) (w : World) (hr : SliceAt w A n c r) (hn : n < 64) (hs : size ≤ 1000000000) :
    Calls Tryz.prog 127 #[.slice A n c, .int .i64 size] w fun e w' => ∃ v', e = .returned v' ∧ Owns w' w.heap.size 5 v' (padTail r size) ∧ Below w.heap.size w w' := by
  by_cases h : 64 < n + 9
  · exact padded_at 128 A n c r size w hr hn hs (.inl ⟨h, rfl⟩)
  · exact padded_at 64 A n c r size w hr hn hs (.inr ⟨h, rfl⟩)
end Go.Proofs.YtkglgboncngpbaaGreatDoor
/- The walks of digest.start and digest.text. -/
namespace Go.Proofs.YtkglgboncngpbaaGreatDoor
open Go.RowKit
namespace Sha
def toL (s : St) : List UInt32 := [s.a, s.b, s.c, s.d, s.e, s.f, s.g, s.h]
theorem toL_len (s : St) : (toL s).length = 8 := rfl
def bytes4 (x : UInt32) : List UInt8 := [(ushr x 24).toUInt8, (ushr x 16).toUInt8, (ushr x 8).toUInt8, x.toUInt8]
def textTo (l : List UInt32) : Nat → List UInt8
  | 0 => []
  | k + 1 => textTo l k ++ bytes4 (at_ l k)
theorem textTo_len (l : List UInt32) (k : Nat) : (textTo l k).length = 4 * k := by
  induction k with
  | zero => rfl
  | succ k ih => simp [textTo, ih, bytes4]; omega
/-- The first block of a list of bytes. -/
def blk (l : List UInt8) (i : Nat) : UInt8 := (l.take 64).getD i 0
theorem blk_lt (l : List UInt8) (i : Nat) (h : i < 64) : blk l i = l.getD i 0 := by
  unfold blk; simp [h]
/-- q steps over blocks of bytes, one behind the other; and what is left of the bytes. -/
def eatG (f : St → List UInt8 → St) : Nat → List UInt8 → St → St × List UInt8
  | 0, l, s => (s, l)
  | q + 1, l, s => eatG f q (l.drop 64) (f s l)
theorem eatG_zero (f : St → List UInt8 → St) (l : List UInt8) (s : St) : eatG f 0 l s = (s, l) := rfl
theorem eatG_succ (f : St → List UInt8 → St) (q : Nat) (l : List UInt8) (s : St) : eatG f (q + 1) l s = eatG f q (l.drop 64) (f s l) := rfl
/-- A block of bytes mixed into a state. -/
def mixL (s : St) (l : List UInt8) : St := mixF s (blk l)
def eat (q : Nat) (l : List UInt8) (s : St) : St × List UInt8 := eatG mixL q l s
theorem eat_zero (l : List UInt8) (s : St) : eat 0 l s = (s, l) := eatG_zero _ _ _
theorem eat_succ (q : Nat) (l : List UInt8) (s : St) : eat (q + 1) l s = eat q (l.drop 64) (mixL s l) := eatG_succ _ _ _ _
end Sha
theorem stV_cell (s : Sha.St) (k : Nat) (hk : k < 8) : (stV s)[k]? = some (.int .u32 (w32 (Sha.at_ (Sha.toL s) k))) := by
  have h : k = 0 ∨ k = 1 ∨ k = 2 ∨ k = 3 ∨ k = 4 ∨ k = 5 ∨ k = 6 ∨ k = 7 := by omega
  rcases h with rfl | rfl | rfl | rfl | rfl | rfl | rfl | rfl <;> rfl
set_option maxRecDepth 20000 in
set_option maxHeartbeats 400000 in
theorem start_any (w : World) : Calls Tryz.prog 125 #[] w fun e w' => e = .returned (.agg (stV Sha.start)) ∧ Below w.heap.size w w' := by
  go_enter Tryz.func125, Tryz.ntmps125
  go_wp2
  exact bodyPost_ret (v := .agg (stV Sha.start)) (results_cell_row rfl _ _ w.heap.size 145 (stV Sha.start) (0, 0) _ rfl (heap_alloc_new _ _) Tryz.underlying145 rfl (by kernel_rfl)) rfl
    ⟨rfl, (Below.refl _ _).alloc (Nat.le_refl _) _⟩
set_option maxRecDepth 20000 in
set_option maxHeartbeats 400000 in
theorem text_any (s : Sha.St) (w : World) : Calls Tryz.prog 128 #[.agg (stV s)] w fun e w' => e = .returned (.string (strOf (Sha.textTo (Sha.toL s) 8))) ∧ Below w.heap.size w w' := by
  unfold stV
  go_enter Tryz.func128, Tryz.ntmps128
  go_wp2_with (at_make; refine wpList_room' _ rfl (.const (.int .i64 0)) (.const (.int .i64 32)) 30 5 rfl (w.heap.size + 1) Tryz.underlying30 u8_info 32 rfl rfl rfl (by omega) (by simp) ?_; intro v1 w1 ho1 hb1; have HO1 := Lib.hid ho1; clear ho1)
  have hx : w1.heap[w.heap.size]? = some (.cells (stV s) 145 (0, 0)) := (hb1.block w.heap.size (by omega)).trans (heap_alloc_new _ _)
  have hbw : Below w.heap.size w w1 := ((Below.refl _ _).alloc (Nat.le_refl _) _).trans (hb1.mono (by omega))
  have hsz : w.heap.size + 1 ≤ w1.heap.size := by have := hb1.size; simp at this; omega
  have HX := Lib.hid hx; clear hx hb1
  go_loopw [3, 7] (fun v i wr => ∃ k : Nat, k ≤ 8 ∧ i = .int .i64 k ∧ Hid (Owns wr (w.heap.size + 1) 5 v (Sha.textTo (Sha.toL s) k)) ∧ Below (w.heap.size + 1) w1 wr) (fun _ i _ => 8 - (intOf i).toNat)
  case atStart => exact ⟨0, by omega, rfl, HO1.out, Below.refl _ _⟩
  case round =>
    obtain ⟨k, hk, rfl, HI, hb⟩ := hrel
    have hlen := Sha.textTo_len (Sha.toL s) k
    by_cases hlt : k < 8
    · have hck : wr.cell? ⟨w.heap.size, k, none⟩ = some (.int .u32 (w32 (Sha.at_ (Sha.toL s) k))) := by
        rw [cell_of_row _ _ _ _ _ _ ((hb.block w.heap.size (by omega)).trans HX.out), stV_cell s k hlt]
      have HL := Lib.hid hlen; have HB := Lib.hid hb; clear hlen hb
      have hsw : w.heap.size + 1 ≤ wr.heap.size := by have := HB.out.size; omega
      go_wp2_with (at_builtin; refine wpList_push wr rfl (.tmp 13) (.tmp 25) 30 5 rfl (w.heap.size + 1) Tryz.underlying30 u8_info _ _ HI.out rfl 4 (Sha.bytes4 (Sha.at_ (Sha.toL s) k)) rfl _ rfl rfl (by rw [HL.out]; omega) hsw ?_; intro v' w' hown' hb')
      exact ⟨⟨k + 1, by omega, by go_num, hown', HB.out.trans hb'⟩, by simp [intOf]; omega⟩
    · have HK : Hid (k = 8) := by unfold Hid; omega
      obtain ⟨g, cap, hv, hg1, hg2, hg3, hg4, hg5⟩ := HI.out.form (by omega)
      rw [hlen] at hv
      subst hv
      have hconv := run_conv_owned (P := Tryz.prog) wr 30 5 9 Tryz.underlying30 Tryz.underlying5 Tryz.underlying9 g 0 _ (4 * k) hlen (fun i hi => by rw [Nat.zero_add]; exact hg5 i (by omega)) cap
      clear hg1 hg2 hg3 hg4 hg5 hlen
      go_wp2
      go_ret
      exact ⟨by show Ending.returned (.string (strOf (Sha.textTo (Sha.toL s) k))) = _; rw [HK.out], hbw.trans (hb.mono (by omega))⟩
end Go.Proofs.YtkglgboncngpbaaGreatDoor
/- The walk of digest.Sum. -/
namespace Go.Proofs.YtkglgboncngpbaaGreatDoor
open Go.RowKit
/-- While digest.Sum runs: block g holds the state, and the slice holds the bytes that are left. -/
structure SumInv (w wr : World) (g : Nat) (st : Sha.St) (A : Option Addr) (n c : Nat) (us : List UInt8) : Prop where
  cell : wr.heap[g]? = some (.cells (stV st) 145 (0, 0))
  base : w.heap.size ≤ g
  below : Below w.heap.size w wr
  sl : SliceAt wr A n c us
  off : ∀ ad, A = some ad → 0 < n → ad.block ≠ g
theorem SumInv.lt {w wr : World} {g : Nat} {st : Sha.St} {A : Option Addr} {n c : Nat} {us : List UInt8} (h : SumInv w wr g st A n c us) : g < wr.heap.size := (Array.getElem?_eq_some_iff.1 h.cell).1
theorem SumInv.store {w wr w4 : World} {g : Nat} {st : Sha.St} {A : Option Addr} {n c : Nat} {us : List UInt8} (h : SumInv w wr g st A n c us) (hb : Below wr.heap.size wr w4) (st' : Sha.St) :
    SumInv w (w4.setRow g (stV st')) g st' A n c us := by
  have hg := h.lt
  refine ⟨setRow_heap _ _ _ _ _ _ ((hb.block g hg).trans h.cell), h.base, below_setRow (h.below.trans (hb.mono h.below.size)) h.base _, ?_, h.off⟩
  have h4 := h.sl.below hb
  refine ⟨h4.len, h4.cap, h4.nil, fun ad hA hn => ?_⟩
  obtain ⟨b, off, e, hc⟩ := h4.some_ ad hA hn
  refine ⟨b, off, e, fun i hi => ?_⟩
  rw [cell_setRow_other _ _ _ _ (by have := h.off ad hA hn; subst e; exact this)]
  exact hc i hi
theorem SumInv.cut {w wr : World} {g b off : Nat} {st : Sha.St} {n c : Nat} {us : List UInt8} (h : SumInv w wr g st (some ⟨b, off, none⟩) n c us) (h64 : 64 ≤ n) (A : Option Addr)
    (hA : A = some ⟨b, off, none⟩ ∧ c = 64 ∨ A = some ⟨b, off + 64, none⟩) : SumInv w wr g st A (n - 64) (c - 64) (us.drop 64) := by
  have hcap := h.sl.cap
  refine ⟨h.cell, h.base, h.below, ⟨by rw [List.length_drop, h.sl.len], by omega, fun e => ?_, fun ad e hn => ?_⟩, fun ad e hn => ?_⟩
  · rcases hA with ⟨hA, _⟩ | hA <;> rw [hA] at e <;> cases e
  · rcases hA with ⟨_, hc⟩ | hA
    · omega
    · rw [hA] at e; injection e with e; subst e
      obtain ⟨b', off', e, hc⟩ := h.sl.some_ _ rfl (by omega)
      injection e with e1 e2; subst e1 e2
      refine ⟨b, off + 64, rfl, fun i hi => ?_⟩
      rw [Nat.add_assoc, hc (64 + i) (by omega)]
      simp [List.getElem?_drop]
  · rcases hA with ⟨_, hc⟩ | hA
    · omega
    · rw [hA] at e; injection e with e; subst e
      have := h.off _ rfl (by omega)
      exact this
theorem SumInv.open_ {w wr : World} {g : Nat} {st : Sha.St} {A : Option Addr} {n c : Nat} {us : List UInt8} (h : SumInv w wr g st A n c us) (h64 : 64 ≤ n) :
    ∃ b off, A = some ⟨b, off, none⟩ ∧ b < wr.heap.size ∧ ∀ i, i < 64 → wr.cell? ⟨b, off + i, none⟩ = some (.int .u8 (w8 (Sha.blk us i))) := by
  rcases A with _ | ad
  · have := (h.sl.nil rfl).1; omega
  · obtain ⟨b, off, e, hc⟩ := h.sl.some_ ad rfl (by omega)
    subst e
    exact ⟨b, off, rfl, block_lt_of_cell (hc 0 (by omega)), fun i hi => by rw [Sha.blk_lt _ _ hi]; exact hc i (by omega)⟩
theorem SumInv.begin {w w1 : World} {Z : Array Value} {st : Sha.St} {A : Option Addr} {n c : Nat} {us : List UInt8} (hs : SliceAt w A n c us) (hb : Below w.heap.size w w1) :
    SumInv w ((w1.alloc (.cells Z 145)).setRow w1.heap.size (stV st)) w1.heap.size st A n c us := by
  have h1 := hb.size
  have hb2 : Below w.heap.size w ((w1.alloc (.cells Z 145)).setRow w1.heap.size (stV st)) := below_setRow (hb.alloc h1 _) h1 _
  refine ⟨setRow_heap _ _ _ _ _ _ (heap_alloc_new _ _), h1, hb2, hs.below hb2, fun ad e hn => ?_⟩
  obtain ⟨b, off, e', hc⟩ := hs.some_ ad e hn
  subst e'
  have := block_lt_of_cell (hc 0 hn)
  intro e2
  simp only at this e2
  omega
/-- One round of digest.Sum's loops: a block less, and the state with it mixed in. -/
theorem SumInv.next {w wr w4 : World} {g b off : Nat} {st : Sha.St} {n c q r : Nat} {us : List UInt8} {X : Sha.St × List UInt8} (h : SumInv w wr g st (some ⟨b, off, none⟩) n c us) (h64 : 64 ≤ n)
    (hq : n = 64 * q + r) (hr : r < 64) (he : Sha.eat q us st = X) (hb : Below wr.heap.size wr w4) (A : Option Addr) (n' c' : Nat) (hn' : n' = n - 64) (hc' : c' = c - 64)
    (hA : A = some ⟨b, off, none⟩ ∧ c = 64 ∨ A = some ⟨b, off + 64, none⟩) :
    ∃ q', n' = 64 * q' + r ∧ ∃ us' st', Sha.eat q' us' st' = X ∧ SumInv w (w4.setRow g (stV (Sha.mixL st us))) g st' A n' c' us' := by
  subst hn' hc'
  obtain ⟨q', rfl⟩ : ∃ q', q = q' + 1 := ⟨q - 1, by omega⟩
  exact ⟨q', by omega, us.drop 64, Sha.mixL st us, by rw [← Sha.eat_succ]; exact he, (h.store hb _).cut h64 A hA⟩
/-- The second loop begins: the end of the message, which the call itself has made. -/
theorem SumInv.turn {w wr w5 : World} {g : Nat} {st : Sha.St} {A : Option Addr} {n c : Nat} {us : List UInt8} (h : SumInv w wr g st A n c us) (hb : Below wr.heap.size wr w5)
    {g2 L cap : Nat} {us2 : List UInt8} (hg2 : wr.heap.size ≤ g2) (hL : us2.length = L) (hcap : L ≤ cap) (hc : ∀ i, i < L → w5.cell? ⟨g2, i, none⟩ = some (bv (us2.getD i 0))) :
    SumInv w w5 g st (some ⟨g2, 0, none⟩) L cap us2 := by
  have hg := h.lt
  refine ⟨(hb.block g hg).trans h.cell, h.base, h.below.trans (hb.mono h.below.size), ⟨hL, hcap, (fun e => by cases e), (fun ad e _ => ?_)⟩, (fun ad e _ => ?_)⟩
  · injection e with e; subst e
    exact ⟨g2, 0, rfl, fun i hi => by rw [Nat.zero_add]; exact hc i hi⟩
  · injection e with e; subst e
    simp only
    omega
set_option maxRecDepth 20000 in
set_option maxHeartbeats 1000000 in
theorem sum_any (A : Option Addr) (n c : Nat) (m : List UInt8) (w : World) (hm : SliceAt w A n c m) (hn : n ≤ 4000000) (hr : Rounds w) :
    Calls Tryz.prog 117 #[.slice A n c] w fun e w' => e = .returned (.string (strOf (Sha.textTo (Sha.toL (Sha.eat (if 64 < n % 64 + 9 then 2 else 1) (padTail (Sha.eat (n / 64) m Sha.start).2 n) (Sha.eat (n / 64) m Sha.start).1).1) 8))) ∧ Below w.heap.size w w' := by
  have HM := Lib.hid hm; have HR := Lib.hid hr; clear hm hr
  obtain ⟨X, hX⟩ : ∃ X, X = Sha.eat (n / 64) m Sha.start := ⟨_, rfl⟩
  rw [← hX]
  have HX := Lib.hid hX; clear hX
  obtain ⟨Q2, hQ2⟩ : ∃ Q2, Q2 = if 64 < n % 64 + 9 then 2 else 1 := ⟨_, rfl⟩
  rw [← hQ2]
  have HQ2 := Lib.hid hQ2; clear hQ2
  go_enter Tryz.func117, Tryz.ntmps117
  go_wp2_with (first
    | (go_at_call 125; refine (start_any _).mono ?_; rintro e w1 ⟨rfl, hb1⟩)
    | (refine wpList_store_row rfl 145 (.tmp 3) (.tmp 6) rfl w1.heap.size (stV Sha.start) rfl rfl 145 _ (heap_alloc_new _ _) (by kernel_rfl) rfl (stV_one _) ?_
       refine wpList_any (fun W => Hid (SumInv w W w1.heap.size Sha.start A n c m)) (SumInv.begin HM.out hb1) (fun W2 HI => ?_)))
  clear hb1
  generalize w1.heap.size = g at HI ⊢
  have HN0 := Lib.hid HM.out.cap; have HLEN := Lib.hid HM.out.len
  go_loopw [4] (fun v wr => ∃ q n' c' A', v = .slice A' n' c' ∧ n' ≤ n ∧ Hid (n' = 64 * q + n % 64 ∧ ∃ us st, Sha.eat q us st = X ∧ SumInv w wr g st A' n' c' us)) (fun v _ => match v with | .slice _ l _ => l | _ => 0)
  case atStart => exact ⟨n / 64, n, c, A, rfl, Nat.le_refl _, by omega, m, Sha.start, HX.out.symm, HI.out⟩
  case round =>
    obtain ⟨q, n', c', A', rfl, hle, HI2⟩ := hrel
    clear HI
    by_cases h64 : 64 ≤ n'
    · obtain ⟨hq, us, st, he, hinv⟩ := HI2.out
      clear HI2
      have HQ := Lib.hid hq; have HE := Lib.hid he; clear hq he
      obtain ⟨b, off, rfl, hb, hc⟩ := hinv.open_ h64
      have HV := Lib.hid hinv; have HC := Lib.hid hc; clear hinv hc
      have hn2 : n' ≤ 4000000 := by omega
      have hcap : n' ≤ c' := HV.out.sl.cap
      rcases Decidable.em (c' = 64) with rfl | hc64
      all_goals
        go_wp2_with (first
          | refine wpList_load_row rfl 145 (.tmp 3) rfl g rfl 145 (stV st) (0, 0) _ HV.out.cell Tryz.underlying145 rfl (by kernel_rfl) ?_
          | (go_at_call 126; refine (mix_any b off n' _ st (Sha.blk us) wr h64 hn2 hb HC.out (HR.out.below HV.out.below HR.out.lt)).mono ?_; rintro e w4 ⟨rfl, hb4⟩)
          | refine wpList_store_row rfl 145 (.tmp 3) (.tmp 13) rfl g (stV (Sha.mixL st us)) rfl rfl 145 _ ((hb4.block g HV.out.lt).trans HV.out.cell) (by rw [stV_size]; kernel_rfl) (by rw [stV_size, stV_size]) (stV_one _) ?_)
        first
          | (obtain ⟨q', h1, h2⟩ := HV.out.next h64 HQ.out (Nat.mod_lt _ (by omega)) HE.out hb4 (some ⟨b, off, none⟩) 0 0 (by omega) (by omega) (.inl ⟨rfl, rfl⟩)
             exact ⟨⟨q', 0, 0, _, rfl, by omega, Lib.hid ⟨h1, h2⟩⟩, by simp only []; omega⟩)
          | (obtain ⟨q', h1, h2⟩ := HV.out.next h64 HQ.out (Nat.mod_lt _ (by omega)) HE.out hb4 (some ⟨b, off + 64, none⟩) (n' - 64) (c' - 64) rfl rfl (.inr rfl)
             exact ⟨⟨q', n' - 64, c' - 64, _, rfl, by omega, Lib.hid ⟨h1, h2⟩⟩, by simp only []; omega⟩)
    · have hend : n' = n % 64 ∧ ∃ us st, X = (st, us) ∧ SumInv w wr g st A' n' c' us := by
        obtain ⟨hq, us, st, he, hinv⟩ := HI2.out
        have : q = 0 := by omega
        subst this
        rw [Sha.eat_zero] at he
        exact ⟨by omega, us, st, he.symm, hinv⟩
      clear HI2
      obtain ⟨hn', us, st, hX2, hinv⟩ := hend
      have HV := Lib.hid hinv; have HX2 := Lib.hid hX2; have HN' := Lib.hid hn'; clear hinv hX2 hn'
      have h64' : n' < 64 := by omega
      go_wp2_with (go_at_call 127; refine (padded_any A' n' c' us n wr HV.out.sl h64' (by omega)).mono ?_; rintro e w5 ⟨v5, rfl, ho5, hb5⟩; have HO5 := Lib.hid ho5; clear ho5)
      have hQ2 := HQ2.out
      have hus : us.length = n' := HV.out.sl.len
      have hPL : (padTail us n).length = 64 * Q2 := by rw [padTail_len us n (by omega), hus, HN'.out, hQ2]; split <;> rfl
      have hQ0 : 0 < Q2 := by rw [hQ2]; split <;> omega
      obtain ⟨g2, cap2, hv5, hg2, hg2', hcap2, hmax, hcells⟩ := HO5.out.form (by omega)
      rw [hPL] at hv5 hcap2 hcells
      subst hv5
      have hinv5 := HV.out.turn hb5 hg2 hPL hcap2 hcells
      obtain ⟨P, hP⟩ : ∃ P, P = padTail us n := ⟨_, rfl⟩
      rw [← hP] at hinv5
      obtain ⟨Y, hY⟩ : ∃ Y, Y = Sha.eat Q2 P st := ⟨_, rfl⟩
      have HY := Lib.hid hY; have HP := Lib.hid hP; have HV5 := Lib.hid hinv5
      clear hY hP hQ2 hinv5 hcells hmax hcap2 hg2' hg2 hPL HO5 hus
      obtain ⟨N2, hN2⟩ : ∃ N2, N2 = 64 * Q2 := ⟨_, rfl⟩
      rw [← hN2] at HV5 ⊢
      have HN2 := Lib.hid hN2; clear hN2
      go_loopw [5] (fun v wr => ∃ q n' c' A', v = .slice A' n' c' ∧ n' ≤ 128 ∧ Hid (n' = 64 * q + 0 ∧ ∃ us st, Sha.eat q us st = Y ∧ SumInv w wr g st A' n' c' us)) (fun v _ => match v with | .slice _ l _ => l | _ => 0)
      case atStart => exact ⟨Q2, N2, cap2, _, rfl, by rw [HN2.out]; have := HQ2.out; split at this <;> omega, by rw [HN2.out]; omega, P, st, HY.out.symm, HV5.out⟩
      case round =>
        obtain ⟨q2, n2, c2, A2, rfl, hle2, HI2⟩ := hrel
        clear HV5
        by_cases h0 : 0 < n2
        · obtain ⟨hq, us2, st2, he, hinv⟩ := HI2.out
          clear HI2
          have h64 : 64 ≤ n2 := by omega
          have HQ := Lib.hid hq; have HE := Lib.hid he; clear hq he
          obtain ⟨b, off, rfl, hb, hc⟩ := hinv.open_ h64
          have HVV := Lib.hid hinv; have HC := Lib.hid hc; clear hinv hc
          have hn2 : n2 ≤ 4000000 := by omega
          have hcap : n2 ≤ c2 := HVV.out.sl.cap
          rcases Decidable.em (c2 = 64) with rfl | hc64
          all_goals
            go_wp2_with (first
              | refine wpList_load_row rfl 145 (.tmp 3) rfl g rfl 145 (stV st2) (0, 0) _ HVV.out.cell Tryz.underlying145 rfl (by kernel_rfl) ?_
              | (go_at_call 126; refine (mix_any b off n2 _ st2 (Sha.blk us2) _ h64 hn2 hb HC.out (HR.out.below HVV.out.below HR.out.lt)).mono ?_; rintro e w4 ⟨rfl, hb4⟩)
              | refine wpList_store_row rfl 145 (.tmp 3) (.tmp 27) rfl g (stV (Sha.mixL st2 us2)) rfl rfl 145 _ ((hb4.block g HVV.out.lt).trans HVV.out.cell) (by rw [stV_size]; kernel_rfl) (by rw [stV_size, stV_size]) (stV_one _) ?_)
            first
              | (obtain ⟨q', h1, h2⟩ := HVV.out.next h64 HQ.out (by omega) HE.out hb4 (some ⟨b, off, none⟩) 0 0 (by omega) (by omega) (.inl ⟨rfl, rfl⟩)
                 exact ⟨⟨q', 0, 0, _, rfl, by omega, Lib.hid ⟨h1, h2⟩⟩, by simp only []; omega⟩)
              | (obtain ⟨q', h1, h2⟩ := HVV.out.next h64 HQ.out (by omega) HE.out hb4 (some ⟨b, off + 64, none⟩) (n2 - 64) (c2 - 64) rfl rfl (.inr rfl)
                 exact ⟨⟨q', n2 - 64, c2 - 64, _, rfl, by omega, Lib.hid ⟨h1, h2⟩⟩, by simp only []; omega⟩)
        · have hend : ∃ us2 st2, Y = (st2, us2) ∧ SumInv w wr g st2 A2 n2 c2 us2 := by
            obtain ⟨hq, us2, st2, he, hinv⟩ := HI2.out
            have : q2 = 0 := by omega
            subst this
            rw [Sha.eat_zero] at he
            exact ⟨us2, st2, he.symm, hinv⟩
          clear HI2
          obtain ⟨us2, st2, hY2, hinv⟩ := hend
          have HVV := Lib.hid hinv; have HY2 := Lib.hid hY2; clear hinv hY2
          go_wp2_with (first
            | refine wpList_load_row rfl 145 (.tmp 3) rfl g rfl 145 (stV st2) (0, 0) _ HVV.out.cell Tryz.underlying145 rfl (by kernel_rfl) ?_
            | (go_at_call 128; refine (text_any st2 _).mono ?_; rintro e w6 ⟨rfl, hb6⟩))
          go_ret
          have hfin : Sha.eat Q2 (padTail X.2 n) X.1 = (st2, us2) := by rw [HX2.out, ← HY2.out, HY.out, HP.out]
          refine ⟨?_, HVV.out.below.trans (hb6.mono HVV.out.below.size)⟩
          rw [hfin]
          rfl
end Go.Proofs.YtkglgboncngpbaaGreatDoor
/- The two ways to end a message come to the same: plain lists, no walk. -/
namespace Go.Proofs.YtkglgboncngpbaaGreatDoor
open Go.RowKit
/-- The whole message with its end. -/
def padAll (m : List UInt8) : List UInt8 := m ++ [128] ++ List.replicate (zerosFor (m.length % 64)) 0 ++ wide (8 * m.length)
/-- The digest of a list of n bytes, as digest.Sum makes it. -/
def shaL (m : List UInt8) (n : Nat) : List UInt8 := Sha.textTo (Sha.toL (Sha.eat (if 64 < n % 64 + 9 then 2 else 1) (padTail (Sha.eat (n / 64) m Sha.start).2 n) (Sha.eat (n / 64) m Sha.start).1).1) 8
namespace Sha
theorem mixL_append (s : St) (l t : List UInt8) (h : 64 ≤ l.length) : mixL s (l ++ t) = mixL s l := by
  unfold mixL
  have : blk (l ++ t) = blk l := by
    funext i; unfold blk; rw [List.take_append_of_le_length h]
  rw [this]
theorem eat_append (t : List UInt8) (p : Nat) : ∀ (q : Nat) (l : List UInt8) (s : St), 64 * q ≤ l.length → eat (q + p) (l ++ t) s = eat p ((eat q l s).2 ++ t) (eat q l s).1
  | 0, l, s, _ => by rw [eat_zero, Nat.zero_add]
  | q + 1, l, s, h => by
    rw [show q + 1 + p = (q + p) + 1 by omega, eat_succ, eat_succ, mixL_append _ _ _ (by omega), List.drop_append_of_le_length (by omega)]
    exact eat_append t p q _ _ (by rw [List.length_drop]; omega)
theorem eat_rest : ∀ (q : Nat) (l : List UInt8) (s : St), (eat q l s).2 = l.drop (64 * q)
  | 0, l, s => by rw [eat_zero]; rfl
  | q + 1, l, s => by
    rw [eat_succ, eat_rest q, List.drop_drop]; congr 1; omega
end Sha
theorem padAll_len (m : List UInt8) : (padAll m).length = 64 * (m.length / 64 + if 64 < m.length % 64 + 9 then 2 else 1) := by
  simp only [padAll, List.length_append, List.length_replicate, List.length_cons, List.length_nil, wide, wideTo_len, zerosFor]
  split <;> omega
theorem same_digest (m : List UInt8) (n : Nat) (hn : m.length = n) : Sha.textTo (Sha.toL (Sha.eat ((padAll m).length / 64) (padAll m) Sha.start).1) 8 = shaL m n := by
  subst hn
  have hq : (padAll m).length / 64 = m.length / 64 + if 64 < m.length % 64 + 9 then 2 else 1 := by
    rw [padAll_len, Nat.mul_div_cancel_left _ (by omega)]
  have hr : (Sha.eat (m.length / 64) m Sha.start).2.length = m.length % 64 := by rw [Sha.eat_rest, List.length_drop]; omega
  have hp : padAll m = m ++ ([128] ++ List.replicate (zerosFor (m.length % 64)) 0 ++ wide (8 * m.length)) := by simp [padAll]
  have ht : padTail (Sha.eat (m.length / 64) m Sha.start).2 m.length = (Sha.eat (m.length / 64) m Sha.start).2 ++ ([128] ++ List.replicate (zerosFor (m.length % 64)) 0 ++ wide (8 * m.length)) := by
    unfold padTail; rw [hr]; simp
  unfold shaL
  rw [hq, ht, ← Sha.eat_append _ _ _ _ _ (by omega), ← hp]
end Go.Proofs.YtkglgboncngpbaaGreatDoor
/- Equality of seals and pins as the program reckons it. -/
namespace Go.Proofs.YtkglgboncngpbaaGreatDoor
open Go.RowKit
theorem toList_beq (s t : ByteArray) : (s.toList == t.toList) = decide (s = t) := by
  rw [ByteArray.toList_eq, ByteArray.toList_eq]
  obtain ⟨⟨x⟩⟩ := s
  obtain ⟨⟨y⟩⟩ := t
  by_cases h : x = y
  · subst h; simp
  · have h2 : ¬ (ByteArray.mk ⟨x⟩ = ByteArray.mk ⟨y⟩) := fun e => h (by injection e with e; injection e)
    rw [decide_eq_false h2]
    simpa using h
theorem toList_iff (s t : ByteArray) : s.toList = t.toList ↔ s = t := by
  have h := toList_beq s t
  constructor
  · intro e
    rw [e] at h
    simpa using h.symm
  · rintro rfl; rfl
@[go_sem] theorem seal_eq (a b : Int) (s t : ByteArray) (w : World) : (Op.equalIn 10000 25 (.agg #[.int .i64 a, .string s]) (.agg #[.int .i64 b, .string t])).run Tryz.prog w = .ok (decide (a = b) && decide (s = t)) w := by
  have hS : Tryz.prog.underlying 25 = some (.struct (Tryz.prog.fieldsOf 25)) := by kernel_rfl
  have hp : Tryz.prog.stoodInHeld 25 = false := by kernel_rfl
  have u3 := Tryz.underlying3
  have a3 := Tryz.isAgg3
  have u9 := Tryz.underlying9
  have a9 := Tryz.isAgg9
  rw [show (10000 : Nat) = 9999 + 1 from rfl, run_equalIn_agg w 9999 _ _ _ hS hp]
  simp only [Program.fieldsOf, Tryz.underlying25]
  go_simp
  simp only [toList_iff]
  by_cases h1 : a = b <;> by_cases h2 : s = t <;> simp [h1, h2]
@[go_sem] theorem pin_eq (a b c d : Int) (s t : ByteArray) (w : World) : (Op.equalIn 10000 74 (.agg #[.int .i64 a, .int .i64 c, .string s]) (.agg #[.int .i64 b, .int .i64 d, .string t])).run Tryz.prog w = .ok (decide (a = b) && decide (c = d) && decide (s = t)) w := by
  have hS : Tryz.prog.underlying 74 = some (.struct (Tryz.prog.fieldsOf 74)) := by kernel_rfl
  have hp : Tryz.prog.stoodInHeld 74 = false := by kernel_rfl
  have u3 := Tryz.underlying3
  have a3 := Tryz.isAgg3
  have u9 := Tryz.underlying9
  have a9 := Tryz.isAgg9
  rw [show (10000 : Nat) = 9999 + 1 from rfl, run_equalIn_agg w 9999 _ _ _ hS hp]
  simp only [Program.fieldsOf, Tryz.underlying74]
  go_simp
  simp only [toList_iff]
  by_cases h1 : a = b <;> by_cases h2 : c = d <;> by_cases h3 : s = t <;> simp [h1, h2, h3]
@[go_sem] theorem seal_guard (op : BinOp) (x y : Operand) (xs ys : Array Value) (w : World) : (eqGuard op 25 x y (.agg xs) (.agg ys)).run Tryz.prog w = .ok () w := run_eqGuard_agg w op _ x y xs ys (by kernel_rfl)
@[go_sem] theorem pin_guard (op : BinOp) (x y : Operand) (xs ys : Array Value) (w : World) : (eqGuard op 74 x y (.agg xs) (.agg ys)).run Tryz.prog w = .ok () w := run_eqGuard_agg w op _ x y xs ys (by kernel_rfl)
end Go.Proofs.YtkglgboncngpbaaGreatDoor
/- The walks of statement.Digest, rightSeal, Sealed, Seal. -/
namespace Go.Proofs.YtkglgboncngpbaaGreatDoor
open Go.RowKit
theorem BRow.sliceAt {w : World} {A : Option Addr} {n c : Nat} {us : List UInt8} (h : BRow w A n c us) : SliceAt w A n c us := by
  refine ⟨h.len, Row.cap h, fun e => Row.nil h e, fun ad hA h0 => ?_⟩
  obtain ⟨b, off, e, hc⟩ := Row.some_ h ad hA (by have := Row.cap h; omega)
  refine ⟨b, off, e, fun i hi => ?_⟩
  rw [hc i (by omega), bytesV_get _ _ (by rw [h.len]; exact hi)]
theorem Rounds.later {w w' : World} (h : Rounds w) (hb : Below w.heap.size w w') : Rounds w' := h.below hb h.lt
/-- The digest of a statement. -/
def digS (s : Stm) : ByteArray := strOf (shaL (bodyB s) (bodyB s).length)
theorem digS_size (s : Stm) : (digS s).size = 32 := by unfold digS; rw [strOf_size]; exact Sha.textTo_len _ _
theorem body_len {s : Stm} (h : Small s) : (bodyB s).length ≤ 2000000 := by
  have h1 := h.prev; have h2 := h.list; have h3 := h.all; have h4 := h.body
  unfold bodyB
  simp only [List.length_append, listB_len, textS_len, intsB_len, List.length_cons, List.length_nil]
  omega
theorem sum_str (A : Option Addr) (n c : Nat) (us : List UInt8) (w : World) (h : BRow w A n c us) (hn : n ≤ 2000000) (hr : Rounds w) :
    Calls Tryz.prog 117 #[.slice A n c] w (SaysL (.string (strOf (shaL us n))) w) := sum_any A n c us w h.sliceAt (by omega) hr
set_option maxRecDepth 100000 in
set_option maxHeartbeats 1000000 in
theorem digest_any (s : Stm) (A : Option Addr) (n c : Nat) (B : Option Addr) (m k : Nat) (w : World) (hl : IRow w A n c s.list) (hp : PRow w B m k s.pins) (hs : Small s) (hr : Rounds w) :
    Calls Tryz.prog 108 #[stmV s A n c B m k] w (SaysL (.string (digS s)) w) := by
  have HBY : Hid (∀ w', Below w.heap.size w w' → Calls Tryz.prog 83 #[stmV s A n c B m k] w' (GivesO w' (bodyB s))) := Lib.hid fun w' h => bytes_own s A n c B m k w' (hl.later h) (hp.later h) hs
  have HR := Lib.hid hr; have HLB := Lib.hid (body_len hs)
  have HD : Hid (digS s = strOf (shaL (bodyB s) (bodyB s).length)) := Lib.hid rfl
  clear hl hp hs hr
  generalize digS s = D at HD ⊢
  generalize bodyB s = R at HD HLB HBY
  obtain ⟨author, number, prev, time, kind, a, b, cc, list, pins, body, key, dig⟩ := s
  unfold stmV at HBY ⊢
  go_enter Tryz.func108, Tryz.ntmps108
  go_wp2_with fail
  refine (HBY.out _ (one_new _ _)).mono ?_
  rintro e w1 ⟨v1, rfl, ho, hb⟩
  obtain ⟨A1, c1, hv, hr1⟩ := ho.row
  have HB1 := Lib.hid ((one_new w _).trans (hb.mono (by simp)))
  have HR1 := Lib.hid hr1; subst hv; clear ho hb hr1 HBY
  have hlen := HLB.out
  go_wp2_with fail
  refine (sum_str A1 _ c1 R w1 HR1.out (by omega) (HR.out.later HB1.out)).mono ?_
  rintro e w2 ⟨rfl, hb2⟩
  go_wp2
  go_ret
  exact ⟨by rw [HD.out]; rfl, HB1.out.trans (hb2.mono HB1.out.size)⟩
/-- The seal that a statement has to have, as a value. -/
def sealV (x : Int) (d : ByteArray) : Value := .agg #[.int .i64 x, .string d]
set_option maxRecDepth 100000 in
set_option maxHeartbeats 1000000 in
theorem rightSeal_any (s : Stm) (A : Option Addr) (n c : Nat) (B : Option Addr) (m k : Nat) (w : World) (hl : IRow w A n c s.list) (hp : PRow w B m k s.pins) (hs : Small s) (hr : Rounds w) :
    Calls Tryz.prog 82 #[stmV s A n c B m k] w (SaysL (sealV s.author (digS s)) w) := by
  have HD : Hid (∀ w', Below w.heap.size w w' → Calls Tryz.prog 108 #[stmV s A n c B m k] w' (SaysL (.string (digS s)) w')) := Lib.hid fun w' h => digest_any s A n c B m k w' (hl.later h) (hp.later h) hs (hr.later h)
  clear hl hp hs hr
  generalize digS s = D at HD ⊢
  obtain ⟨author, number, prev, time, kind, a, b, cc, list, pins, body, key, dig⟩ := s
  unfold stmV sealV at *
  obtain ⟨G, hG⟩ : ∃ G, G = w.heap.size + 1 := ⟨_, rfl⟩
  have HGG := Lib.hid hG; clear hG
  go_enter Tryz.func82, Tryz.ntmps82
  go_wp2_with fail
  refine wp_region_grow (by kernel_rfl) (Below G) (Below.refl G) (fun _ _ _ => Below.trans) [] [([0, 1, 2], 3), ([], 4), ([], 5)] (by kernel_rfl) (by kernel_rfl) (by kernel_rfl) ?_
  simp only [List.map_cons, List.map_nil, pick, List.getD_cons_zero, List.getD_cons_succ]
  have hb0 : Below w.heap.size w ((w.alloc (.cells #[.int .i64 author, .int .i64 number, .string prev, .int .i64 time, .int .i64 kind, .int .i64 a, .int .i64 b, .int .i64 cc, .slice A n c, .slice B m k, .string body, .int .i64 key, .string dig] 27)).alloc (.cells #[.int .i64 0, .string ⟨#[]⟩] 25)).drew := ((one_new w _).alloc (by simp) _).drew
  have hx0 : ((w.alloc (.cells #[.int .i64 author, .int .i64 number, .string prev, .int .i64 time, .int .i64 kind, .int .i64 a, .int .i64 b, .int .i64 cc, .slice A n c, .slice B m k, .string body, .int .i64 key, .string dig] 27)).alloc (.cells #[.int .i64 0, .string ⟨#[]⟩] 25)).drew.heap[w.heap.size]? = _ := (Below.heap_alloc _ _ _ (by simp)).trans (heap_alloc_new w (.cells #[.int .i64 author, .int .i64 number, .string prev, .int .i64 time, .int .i64 kind, .int .i64 a, .int .i64 b, .int .i64 cc, .slice A n c, .slice B m k, .string body, .int .i64 key, .string dig] 27))
  have hy0 : ((w.alloc (.cells #[.int .i64 author, .int .i64 number, .string prev, .int .i64 time, .int .i64 kind, .int .i64 a, .int .i64 b, .int .i64 cc, .slice A n c, .slice B m k, .string body, .int .i64 key, .string dig] 27)).alloc (.cells #[.int .i64 0, .string ⟨#[]⟩] 25)).drew.heap[(w.alloc (.cells #[.int .i64 author, .int .i64 number, .string prev, .int .i64 time, .int .i64 kind, .int .i64 a, .int .i64 b, .int .i64 cc, .slice A n c, .slice B m k, .string body, .int .i64 key, .string dig] 27)).heap.size]? = _ := heap_alloc_new (w.alloc (.cells #[.int .i64 author, .int .i64 number, .string prev, .int .i64 time, .int .i64 kind, .int .i64 a, .int .i64 b, .int .i64 cc, .slice A n c, .slice B m k, .string body, .int .i64 key, .string dig] 27)) (.cells #[.int .i64 0, .string ⟨#[]⟩] 25)
  rw [show (w.alloc (.cells #[.int .i64 author, .int .i64 number, .string prev, .int .i64 time, .int .i64 kind, .int .i64 a, .int .i64 b, .int .i64 cc, .slice A n c, .slice B m k, .string body, .int .i64 key, .string dig] 27)).heap.size = G by rw [HGG.out]; simp] at hy0
  have hz0 : ((w.alloc (.cells #[.int .i64 author, .int .i64 number, .string prev, .int .i64 time, .int .i64 kind, .int .i64 a, .int .i64 b, .int .i64 cc, .slice A n c, .slice B m k, .string body, .int .i64 key, .string dig] 27)).alloc (.cells #[.int .i64 0, .string ⟨#[]⟩] 25)).drew.heap.size = G + 1 := by rw [HGG.out]; show ((w.alloc _).alloc _).heap.size = _; simp
  generalize ((w.alloc (.cells #[.int .i64 author, .int .i64 number, .string prev, .int .i64 time, .int .i64 kind, .int .i64 a, .int .i64 b, .int .i64 cc, .slice A n c, .slice B m k, .string body, .int .i64 key, .string dig] 27)).alloc (.cells #[.int .i64 0, .string ⟨#[]⟩] 25)).drew = w1 at hb0 hx0 hy0 hz0 ⊢
  rw [← HGG.out]
  obtain ⟨hf0, hf1, hf2, hf3, hf4, hf5, hf6, hf7, hf8, hf9, hf10, hf11, hf12⟩ := stm_futs (F := Below G) (Below.refl G) (s := ⟨author, number, prev, time, kind, a, b, cc, list, pins, body, key, dig⟩) (W := w1) (fun w' h => h.block _ (by rw [HGG.out]; omega)) hx0
  have HB1 := Lib.hid hb0; have HY1 := Lib.hid hy0; have HZ1 := Lib.hid hz0; clear hb0 hx0 hy0 hz0
  refine wpGrow_cons ?_
  repeat (go_big_quiet_step (fail))
  refine wpQuiet_nil ?_
  clear hf0 hf1 hf2 hf3 hf4 hf5 hf6 hf7 hf8 hf9 hf10 hf11 hf12
  go_wp2_with fail
  refine (HD.out w1 HB1.out).mono ?_
  rintro e w2 ⟨rfl, hb⟩
  have HB2 := Lib.hid (HB1.out.trans (hb.mono HB1.out.size)); have HY2 := Lib.hid ((hb.block G (by rw [HZ1.out]; omega)).trans HY1.out); have HF := Lib.hid (hb.mono (by rw [HZ1.out]; omega : G ≤ w1.heap.size)); clear hb HB1 HY1
  go_wp2_with fail
  refine pieceEnd_normal ⟨HF.out, ?_⟩
  clear HF
  refine wpGrow_cons ?_
  refine wpQuiet_nil ?_
  go_wp2_with fail
  refine pieceEnd_normal ⟨Below.refl _ _, ?_⟩
  refine wpGrow_cons ?_
  refine wpQuiet_nil ?_
  refine wpList_store_row rfl 25 (.tmp 2) (.tmp 7) rfl G #[.int .i64 author, .string D] rfl rfl 25 _ HY2.out (by kernel_rfl) rfl (by simp [Value.oneCell']) ?_
  refine wpList_nil ?_
  refine pieceEnd_normal ⟨below_setRow (Below.refl _ _) (Nat.le_refl _) _, ?_⟩
  refine wpGrow_nil ?_
  refine wpQuiet_nil ?_
  go_wp2
  refine bodyPost_ret (v := .agg #[.int .i64 author, .string D]) (results_cell_row rfl _ _ G 25 #[.int .i64 author, .string D] (0, 0) _ rfl (setRow_heap _ _ _ _ _ _ HY2.out) Tryz.underlying25 rfl (by kernel_rfl)) rfl ⟨rfl, below_setRow HB2.out (by rw [HGG.out]; omega) _⟩
/-- Whether the seal is right. -/
def sealedB (s : Stm) : Bool := decide (s.key = s.author) && decide (s.dig = digS s)
set_option maxRecDepth 100000 in
set_option maxHeartbeats 1000000 in
theorem sealed_any (s : Stm) (A : Option Addr) (n c : Nat) (B : Option Addr) (m k : Nat) (w : World) (hl : IRow w A n c s.list) (hp : PRow w B m k s.pins) (hs : Small s) (hr : Rounds w) :
    Calls Tryz.prog 54 #[stmV s A n c B m k] w (SaysL (.bool (sealedB s)) w) := by
  have HD : Hid (∀ w', Below w.heap.size w w' → Calls Tryz.prog 82 #[stmV s A n c B m k] w' (SaysL (sealV s.author (digS s)) w')) := Lib.hid fun w' h => rightSeal_any s A n c B m k w' (hl.later h) (hp.later h) hs (hr.later h)
  clear hl hp hs hr
  have HS : Hid (sealedB s = (decide (s.key = s.author) && decide (s.dig = digS s))) := Lib.hid rfl
  generalize digS s = D at HD HS
  generalize sealedB s = R at HS ⊢
  obtain ⟨author, number, prev, time, kind, a, b, cc, list, pins, body, key, dig⟩ := s
  unfold stmV sealV at *
  simp only at HS
  go_enter Tryz.func54, Tryz.ntmps54
  go_wp2_with fail
  refine wp_region_grow (by kernel_rfl) Later Later.refl (fun _ _ _ => Later.trans) [4, 5] [([0, 1, 2], 3)] (by kernel_rfl) (by kernel_rfl) (by kernel_rfl) ?_
  simp only [List.map_cons, List.map_nil, pick, List.getD_cons_zero, List.getD_cons_succ]
  have hb0 : Below w.heap.size w (w.alloc (.cells #[.int .i64 author, .int .i64 number, .string prev, .int .i64 time, .int .i64 kind, .int .i64 a, .int .i64 b, .int .i64 cc, .slice A n c, .slice B m k, .string body, .int .i64 key, .string dig] 27)).drew := (one_new w _).drew
  have hx0 : (w.alloc (.cells #[.int .i64 author, .int .i64 number, .string prev, .int .i64 time, .int .i64 kind, .int .i64 a, .int .i64 b, .int .i64 cc, .slice A n c, .slice B m k, .string body, .int .i64 key, .string dig] 27)).drew.heap[w.heap.size]? = _ := heap_alloc_new w (.cells #[.int .i64 author, .int .i64 number, .string prev, .int .i64 time, .int .i64 kind, .int .i64 a, .int .i64 b, .int .i64 cc, .slice A n c, .slice B m k, .string body, .int .i64 key, .string dig] 27)
  have hz0 : w.heap.size < (w.alloc (.cells #[.int .i64 author, .int .i64 number, .string prev, .int .i64 time, .int .i64 kind, .int .i64 a, .int .i64 b, .int .i64 cc, .slice A n c, .slice B m k, .string body, .int .i64 key, .string dig] 27)).drew.heap.size := by show _ < (w.alloc _).heap.size; simp
  generalize (w.alloc (.cells #[.int .i64 author, .int .i64 number, .string prev, .int .i64 time, .int .i64 kind, .int .i64 a, .int .i64 b, .int .i64 cc, .slice A n c, .slice B m k, .string body, .int .i64 key, .string dig] 27)).drew = w1 at hb0 hx0 hz0 ⊢
  obtain ⟨hf0, hf1, hf2, hf3, hf4, hf5, hf6, hf7, hf8, hf9, hf10, hf11, hf12⟩ := stm_futs (F := Later) Later.refl (s := ⟨author, number, prev, time, kind, a, b, cc, list, pins, body, key, dig⟩) (W := w1) (fun w' h => h.block _ hz0) hx0
  have HB1 := Lib.hid hb0; clear hb0 hx0 hz0
  refine wpGrow_cons ?_
  repeat (go_big_quiet_step (fail))
  refine wpQuiet_nil ?_
  clear hf0 hf1 hf2 hf3 hf4 hf5 hf6 hf7 hf8 hf9 hf10 hf11 hf12
  go_wp2_with fail
  refine (HD.out w1 HB1.out).mono ?_
  rintro e w2 ⟨rfl, hb⟩
  have HB2 := Lib.hid (HB1.out.trans (hb.mono HB1.out.size)); have HF : Hid (Later w1 w2) := Lib.hid hb; clear hb HB1
  go_wp2_with fail
  refine pieceEnd_normal ⟨HF.out, ?_⟩
  clear HF
  by_cases e1 : key = author
  · by_cases e2 : dig.toList = D.toList
    · have HV : Hid (R = true) := by unfold Hid; rw [HS.out]; simp [e1, (toList_iff _ _).1 e2]
      refine wpGrow_nil ?_
      repeat (go_big_quiet_step (fail))
      refine wpQuiet_nil ?_
      go_wp2
      go_ret
      exact ⟨by rw [HV.out]; rfl, HB2.out⟩
    · have e3 : ¬ dig = D := fun h => e2 ((toList_iff _ _).2 h)
      have HV : Hid (R = false) := by unfold Hid; rw [HS.out]; simp [e1, e3]
      refine wpGrow_nil ?_
      repeat (go_big_quiet_step (fail))
      refine wpQuiet_nil ?_
      go_wp2
      go_ret
      exact ⟨by rw [HV.out]; rfl, HB2.out⟩
  · have HV : Hid (R = false) := by unfold Hid; rw [HS.out]; simp [e1]
    refine wpGrow_nil ?_
    repeat (go_big_quiet_step (fail))
    refine wpQuiet_nil ?_
    go_wp2
    go_ret
    exact ⟨by rw [HV.out]; rfl, HB2.out⟩
/-- A statement with the right seal. -/
def sealOf (s : Stm) : Stm := { s with key := s.author, dig := digS s }
end Go.Proofs.YtkglgboncngpbaaGreatDoor
/- A region that draws its order, where two operations that may make memory come up together: both orders are walked. Plain facts over any program. -/
namespace Go.Proofs.YtkglgboncngpbaaGreatDoor
open Go.RowKit Go
section
variable {P : Program} {md : Region.Mode} {F : World → World → Prop}
theorem wpOp_piece {l : List Oper} {Q : Exit → Act → World → Prop} (hr : ∀ w, F w w) (ht : ∀ a b c, F a b → F b c → F a c) (hs : Region.noSelect l.toArray = true) (last : List Nat) (more : List (List Nat × Nat)) (listed : Array Bool) (e : Nat) (h3 : e < l.length)
    (h4 : growB md l last more listed = true) (a' : Act) (w : World)
    (ha' : wpList P l.toArray (pieceEnd fun a'' w' => F w w' ∧ wpGrow P l.toArray F (fun a w => Q .normal a w) (last.map (pick l)) (more.map fun s => (s.1.map (pick l), pick l s.2)) a'' w') [pick l e] a' w) :
    wpOp P l.toArray (NoPanic Q) e (fun a'' w' => Futs F w w' ∧ wpAnyH P md l.toArray (NoPanic Q) (Futs F w) (growLen last more) listed a'' w') a' w := by
  have hK : ∀ a'' w', (F w w' ∧ wpGrow P l.toArray F (fun a w => Q .normal a w) (last.map (pick l)) (more.map fun s => (s.1.map (pick l), pick l s.2)) a'' w') →
      Futs F w w' ∧ wpAnyH P md l.toArray (NoPanic Q) (Futs F w) (growLen last more) listed a'' w' := fun a'' w' ⟨hF, hg⟩ =>
    ⟨Futs.of hF, wpAnyH_mono (fun x hx => Futs.of (ht _ _ _ hF (hx.to hr))) _ _ _ _ (wpAnyH_grow hr ht hs last more _ a'' w' h4 hg)⟩
  unfold wpOp
  simp only [pick_at h3]
  unfold wpList at ha'
  split at ha'
  · rename_i hw
    rw [if_pos hw]
    rcases ha' with ha' | ⟨_, ⟨_, _, hx⟩⟩
    · refine .inl (wp_post (Q := pieceEnd _) (fun _ _ _ h => h.elim) (fun ⟨_, _, h⟩ => h.elim) (Oper.wp_mono (fun a'' w' h => hK a'' w' h) ha'))
    · exact hx.elim
  · rename_i hw
    rw [if_neg hw]
    exact hK _ _ ha'
/-- Both orders. -/
theorem wp_region_alt {l : List Oper} {id : Nat} {Q : Exit → Act → World → Prop} {a : Act} {w : World} (hm : P.follows .mixedOrders = true) (F : World → World → Prop) (hr : ∀ w, F w w) (ht : ∀ a b c, F a b → F b c → F a c)
    (rs : List Nat) (e1 e2 : Nat) (last1 : List Nat) (segs1 : List (List Nat × Nat)) (last2 : List Nat) (segs2 : List (List Nat × Nat)) (hs : Region.noSelect l.toArray = true)
    (hn1 : rs.length + (growLen last1 segs1 + 1) = l.length) (hn2 : growLen last2 segs2 = growLen last1 segs1)
    (hB : readsB .any l rs (Array.replicate l.length false) = true) (h2 : (Region.ready .any l.toArray (setAll rs (Array.replicate l.length false)) == [e1, e2]) = true) (h3 : e1 < l.length) (h4 : e2 < l.length)
    (hB1 : growB .any l last1 segs1 ((setAll rs (Array.replicate l.length false)).setIfInBounds e1 true) = true) (hB2 : growB .any l last2 segs2 ((setAll rs (Array.replicate l.length false)).setIfInBounds e2 true) = true)
    (h : wpQuiet P l.toArray (Futs F w.drew) (fun a' =>
      wpList P l.toArray (pieceEnd fun a'' w' => F w.drew w' ∧ wpGrow P l.toArray F (fun a w => Q .normal a w) (last1.map (pick l)) (segs1.map fun s => (s.1.map (pick l), pick l s.2)) a'' w') [pick l e1] a' w.drew ∧
      wpList P l.toArray (pieceEnd fun a'' w' => F w.drew w' ∧ wpGrow P l.toArray F (fun a w => Q .normal a w) (last2.map (pick l)) (segs2.map fun s => (s.1.map (pick l), pick l s.2)) a'' w') [pick l e2] a' w.drew) (rs.map (pick l)) a) :
    (Code.region id l.toArray true).wp P Q a w := by
  refine wp_region_noPanic (wp_region_held hm (S := Futs F w.drew) ?_)
  rw [List.size_toArray]
  have h2' : Region.ready .any l.toArray (setAll rs (Array.replicate l.length false)) = [e1, e2] := by simpa using h2
  have := wpAnyH_reads (P := P) (md := .any) (Q0 := Q) (C := Futs F w.drew) (w := w.drew) (fuel := growLen last1 segs1 + 1) hs (Futs.of (hr _)) rs (Array.replicate l.length false) a hB h (fun a' ha' => ?_)
  · rw [hn1] at this; exact this
  · refine wpAnyH_all h2' (by simp) (fun i hi => ?_)
    have hi' : i = e1 ∨ i = e2 := by simpa using hi
    rcases hi' with rfl | rfl
    · exact wpOp_piece hr ht hs last1 segs1 _ _ h3 hB1 a' w.drew ha'.1
    · have := wpOp_piece (md := .any) hr ht hs last2 segs2 _ _ h4 hB2 a' w.drew ha'.2
      rw [hn2] at this; exact this
end
end Go.Proofs.YtkglgboncngpbaaGreatDoor
/- The walk of statement.Encode. -/
namespace Go.Proofs.YtkglgboncngpbaaGreatDoor
open Go.RowKit
/-- What Encode answers. -/
def encE (s : Stm) : Int := if checkV s = 0 then (if sealedB s = true then 0 else 6) else checkV s
def wholeB (s : Stm) : List UInt8 := bodyB s ++ (listB [s.key] ++ textB s.dig.data.toList)
def encB (s : Stm) : List UInt8 := if checkV s = 0 then (if sealedB s = true then wholeB s else []) else []
def EncS (w : World) (s : Stm) (e : Ending) (w' : World) : Prop := ∃ A m c, e = .returned (.tuple #[.slice A m c, .int .i64 (encE s)]) ∧ BRow w' A m c (encB s) ∧ Below w.heap.size w w'
set_option maxRecDepth 100000 in
set_option maxHeartbeats 2000000 in
theorem encode_any (s : Stm) (A : Option Addr) (n c : Nat) (B : Option Addr) (m k : Nat) (w : World) (hl : IRow w A n c s.list) (hp : PRow w B m k s.pins) (hs : Small s) (hr : Rounds w) :
    Calls Tryz.prog 56 #[stmV s A n c B m k] w (EncS w s) := by
  have hn : n ≤ 1000 := by rw [← hl.len]; exact hs.list
  have hm : m ≤ 1000 := by rw [← hp.len]; exact hs.pins
  have H1 : Hid (∀ w', Below w.heap.size w w' → Calls Tryz.prog 53 #[stmV s A n c B m k] w' (SaysL (.int .i64 (checkV s)) w')) := Lib.hid fun w' h => check_any s A n c B m k w' (hl.later h) (hp.later h) (by omega) (by omega) (by have := hs.body; omega)
  have H2 : Hid (∀ w', Below w.heap.size w w' → Calls Tryz.prog 54 #[stmV s A n c B m k] w' (SaysL (.bool (sealedB s)) w')) := Lib.hid fun w' h => sealed_any s A n c B m k w' (hl.later h) (hp.later h) hs (hr.later h)
  have H3 : Hid (∀ w', Below w.heap.size w w' → Calls Tryz.prog 83 #[stmV s A n c B m k] w' (GivesO w' (bodyB s))) := Lib.hid fun w' h => bytes_own s A n c B m k w' (hl.later h) (hp.later h) hs
  have HE : Hid (encE s = if checkV s = 0 then (if sealedB s = true then 0 else 6) else checkV s) := Lib.hid rfl
  have HB : Hid (encB s = if checkV s = 0 then (if sealedB s = true then bodyB s ++ (listB [s.key] ++ textB s.dig.data.toList) else []) else []) := Lib.hid rfl
  have hdig := hs.dig; have hlen := body_len hs
  clear hl hp hs hr
  unfold EncS
  generalize encE s = E at HE ⊢
  generalize encB s = EB at HB ⊢
  generalize checkV s = cv at HE HB H1
  generalize sealedB s = sv at HE HB H2
  generalize bodyB s = R at HB H3 hlen
  obtain ⟨author, number, prev, time, kind, a, b, cc, list, pins, body, key, dig⟩ := s
  unfold stmV at *
  simp only at hdig HB
  obtain ⟨G, hG⟩ : ∃ G, G = w.heap.size + 1 := ⟨_, rfl⟩
  have HGG := Lib.hid hG; clear hG
  go_enter Tryz.func56, Tryz.ntmps56
  go_wp2_with fail
  refine (H1.out _ (one_new _ _)).mono ?_
  rintro e w1 ⟨rfl, hb⟩
  have HB1 := Lib.hid ((one_new w _).trans (hb.mono (by simp))); have HX1 := Lib.hid ((hb.block w.heap.size (by simp)).trans (heap_alloc_new w (.cells #[.int .i64 author, .int .i64 number, .string prev, .int .i64 time, .int .i64 kind, .int .i64 a, .int .i64 b, .int .i64 cc, .slice A n c, .slice B m k, .string body, .int .i64 key, .string dig] 27))); have HZ1 : Hid (G ≤ w1.heap.size) := Lib.hid (by have := hb.size; rw [HGG.out]; simpa using this)
  clear hb
  by_cases h0 : cv = 0
  · subst h0
    obtain ⟨hc0, hc1, hc2, hc3, hc4, hc5, hc6, hc7, hc8, hc9, hc10, hc11, hc12⟩ := stm_cells (s := ⟨author, number, prev, time, kind, a, b, cc, list, pins, body, key, dig⟩) HX1.out
    go_wp2_with fail
    refine (H2.out _ HB1.out).mono ?_
    rintro e w2 ⟨rfl, hb⟩
    have HB2 := Lib.hid (HB1.out.trans (hb.mono HB1.out.size)); have HX2 := Lib.hid ((hb.block w.heap.size (by have := HZ1.out; rw [HGG.out] at this; omega)).trans HX1.out); have HZ2 : Hid (G ≤ w2.heap.size) := Lib.hid (Nat.le_trans HZ1.out hb.size)
    clear hb hc0 hc1 hc2 hc3 hc4 hc5 hc6 hc7 hc8 hc9 hc10 hc11 hc12 HB1 HX1 HZ1
    cases g2 : sv
    · go_wp2
      go_ret2
      exact ⟨none, 0, 0, by rw [HE.out, g2]; rfl, by rw [HB.out, g2]; exact Row.nilRow _ _, HB2.out⟩
    have HE2 : Hid (E = 0) := by unfold Hid; rw [HE.out, g2]; rfl
    have HEB : Hid (EB = R ++ (listB [key] ++ textB dig.data.toList)) := by unfold Hid; rw [HB.out, g2]; rfl
    clear HE HB
    go_wp2_with fail
    refine wp_region_alt (by kernel_rfl) (Below G) (Below.refl G) (fun _ _ _ => Below.trans) [0, 2, 3, 4, 7, 8, 9] 1 5 [12, 13] [([], 5), ([], 6), ([], 10), ([], 11)] [12, 13] [([], 1), ([], 6), ([], 10), ([], 11)] (by kernel_rfl) (by kernel_rfl) (by kernel_rfl) (by kernel_rfl) (by kernel_rfl) (by decide) (by decide) (by kernel_rfl) (by kernel_rfl) ?_
    simp only [List.map_cons, List.map_nil, pick, List.getD_cons_zero, List.getD_cons_succ]
    have HB3 := Lib.hid HB2.out.drew; have HX3 : Hid (w2.drew.heap[w.heap.size]? = _) := HX2; have HZ3 : Hid (G ≤ w2.drew.heap.size) := HZ2
    clear HB2 HX2 HZ2
    generalize w2.drew = w3 at HB3 HX3 HZ3 ⊢
    obtain ⟨hf0, hf1, hf2, hf3, hf4, hf5, hf6, hf7, hf8, hf9, hf10, hf11, hf12⟩ := stm_futs (F := Below G) (Below.refl G) (s := ⟨author, number, prev, time, kind, a, b, cc, list, pins, body, key, dig⟩) (W := w3) (fun w' h => h.block _ (by rw [HGG.out]; omega)) HX3.out
    repeat (go_big_quiet_step (fail))
    refine wpQuiet_nil ?_
    clear hf0 hf1 hf2 hf3 hf4 hf5 hf6 hf7 hf8 hf9 hf10 hf11 hf12
    constructor
    · go_wp2_with fail
      refine (H3.out w3 HB3.out).mono ?_
      rintro e w4 ⟨x1, rfl, ho, hb⟩
      have HO4 := Lib.hid (ho.from HZ3.out); have HB4 := Lib.hid (HB3.out.trans (hb.mono HB3.out.size)); have HZ4 : Hid (G ≤ w4.heap.size) := Lib.hid (Nat.le_trans HZ3.out hb.size); have HF := Lib.hid (hb.mono HZ3.out)
      clear ho hb HB3 HX3 HZ3
      go_wp2_with fail
      refine pieceEnd_normal ⟨HF.out, ?_⟩
      clear HF
      refine wpGrow_cons ?_
      refine wpQuiet_nil ?_
      go_wp2_with fail
      have hk : Below w4.heap.size w4 (w4.alloc (.cells #[.int .i64 key] 3)) := one_new _ _
      refine pieceEnd_normal ⟨hk.mono HZ4.out, ?_⟩
      have HK5 := Lib.hid (nums_row (w := w4) [key] #[.int .i64 key] 3 (0, 0) rfl 1 rfl)
      have HO5 := Lib.hid (HO4.out.later hk); have HB5 := Lib.hid (HB4.out.trans (hk.mono HB4.out.size)); have HZ5 : Hid (G ≤ (w4.alloc (.cells #[.int .i64 key] 3)).heap.size) := Lib.hid (Nat.le_trans HZ4.out hk.size)
      clear hk HO4 HB4 HZ4
      generalize w4.alloc (.cells #[.int .i64 key] 3) = w5 at HK5 HO5 HB5 HZ5 ⊢
      refine wpGrow_cons ?_
      refine wpQuiet_nil ?_
      go_wp2_with fail
      refine (numbers_any _ 1 1 [key] w5 HK5.out (by omega)).mono ?_
      rintro e w6 ⟨x6, rfl, ho, hb⟩
      have HO6 := Lib.hid (HO5.out.later hb); have HB6 := Lib.hid (HB5.out.trans (hb.mono HB5.out.size)); have HZ6 : Hid (G ≤ w6.heap.size) := Lib.hid (Nat.le_trans HZ5.out hb.size); have HF := Lib.hid (hb.mono HZ5.out)
      obtain ⟨A6, c6, hv, hr⟩ := ho.row
      have HR6 := Lib.hid hr; subst hv; clear hr ho hb HO5 HB5 HZ5 HK5
      have HL6 : Hid ((listB [key]).length = 8) := by unfold Hid; rw [listB_len]; rfl
      rw [HL6.out] at HR6 ⊢
      go_wp2_with fail
      refine pieceEnd_normal ⟨HF.out, ?_⟩
      clear HF
      refine wpGrow_cons ?_
      refine wpQuiet_nil ?_
      go_wp2_with fail
      refine (wireText_own A6 8 c6 _ dig w6 HR6.out (by omega) (by omega)).mono ?_
      rintro e w7 ⟨x7, rfl, ho, hb⟩
      have HO7 := Lib.hid (HO6.out.later hb); have HB7 := Lib.hid (HB6.out.trans (hb.mono HB6.out.size)); have HZ7 : Hid (G ≤ w7.heap.size) := Lib.hid (Nat.le_trans HZ6.out hb.size); have HF := Lib.hid (hb.mono HZ6.out)
      obtain ⟨A7, c7, hv, hr⟩ := ho.row
      have HR7 := Lib.hid hr; subst hv; clear hr ho hb HO6 HB6 HZ6 HR6
      have HL7 : Hid ((listB [key] ++ textB dig.data.toList).length = 8 + (8 + dig.size)) := by unfold Hid; rw [List.length_append, HL6.out, textS_len]
      rw [HL7.out] at HR7 ⊢
      go_wp2_with fail
      refine pieceEnd_normal ⟨HF.out, ?_⟩
      clear HF
      refine wpGrow_cons ?_
      refine wpQuiet_nil ?_
      go_wp2_with (at_builtin; go_must (refine wpList_app w7 rfl (.tmp 14) (.tmp 23) 30 30 5 rfl G Tryz.underlying30 u8_info rfl _ _ _ HO7.out rfl _ (8 + (8 + dig.size)) (bytesV (listB [key] ++ textB dig.data.toList)) (Row.src HR7.out Tryz.underlying30 (bytesV_one _)) rfl (by unfold maxLen; omega) (by omega) HZ7.out ?_); intro x8 w8 ho8 hb8; have HF : Hid (Below G w7 w8) := Lib.hid hb8; have HO8 : Hid (BOwn w8 G x8 EB) := Lib.hid (own_bytes HL7.out HEB.out ho8); clear ho8 hb8)
      go_wp2_with fail
      refine pieceEnd_normal ⟨HF.out, ?_⟩
      obtain ⟨A8, c8, hv8, hr8⟩ := HO8.out.row
      have HR8 := Lib.hid hr8
      subst hv8
      clear hr8 HO8
      refine wpGrow_nil ?_
      repeat (go_big_quiet_step (fail))
      refine wpQuiet_nil ?_
      go_wp2
      go_ret2
      exact ⟨A8, _, c8, by rw [HE2.out]; rfl, HR8.out, HB7.out.trans (HF.out.mono (by rw [HGG.out]; omega))⟩
    · go_wp2_with fail
      have hk : Below w3.heap.size w3 (w3.alloc (.cells #[.int .i64 key] 3)) := one_new _ _
      refine pieceEnd_normal ⟨hk.mono HZ3.out, ?_⟩
      have HK4 := Lib.hid (nums_row (w := w3) [key] #[.int .i64 key] 3 (0, 0) rfl 1 rfl)
      have HB4 := Lib.hid (HB3.out.trans (hk.mono HB3.out.size)); have HZ4 : Hid (G ≤ (w3.alloc (.cells #[.int .i64 key] 3)).heap.size) := Lib.hid (Nat.le_trans HZ3.out hk.size)
      clear hk HB3 HX3 HZ3
      generalize w3.alloc (.cells #[.int .i64 key] 3) = w4 at HK4 HB4 HZ4 ⊢
      refine wpGrow_cons ?_
      refine wpQuiet_nil ?_
      go_wp2_with fail
      refine (H3.out w4 HB4.out).mono ?_
      rintro e w5 ⟨x1, rfl, ho, hb⟩
      have HO5 := Lib.hid (ho.from HZ4.out); have HB5 := Lib.hid (HB4.out.trans (hb.mono HB4.out.size)); have HZ5 : Hid (G ≤ w5.heap.size) := Lib.hid (Nat.le_trans HZ4.out hb.size); have HF := Lib.hid (hb.mono HZ4.out); have HK5 := Lib.hid (HK4.out.later hb)
      clear ho hb HB4 HZ4 HK4
      go_wp2_with fail
      refine pieceEnd_normal ⟨HF.out, ?_⟩
      clear HF
      refine wpGrow_cons ?_
      refine wpQuiet_nil ?_
      go_wp2_with fail
      refine (numbers_any _ 1 1 [key] w5 HK5.out (by omega)).mono ?_
      rintro e w6 ⟨x6, rfl, ho, hb⟩
      have HO6 := Lib.hid (HO5.out.later hb); have HB6 := Lib.hid (HB5.out.trans (hb.mono HB5.out.size)); have HZ6 : Hid (G ≤ w6.heap.size) := Lib.hid (Nat.le_trans HZ5.out hb.size); have HF := Lib.hid (hb.mono HZ5.out)
      obtain ⟨A6, c6, hv, hr⟩ := ho.row
      have HR6 := Lib.hid hr; subst hv; clear hr ho hb HO5 HB5 HZ5 HK5
      have HL6 : Hid ((listB [key]).length = 8) := by unfold Hid; rw [listB_len]; rfl
      rw [HL6.out] at HR6 ⊢
      go_wp2_with fail
      refine pieceEnd_normal ⟨HF.out, ?_⟩
      clear HF
      refine wpGrow_cons ?_
      refine wpQuiet_nil ?_
      go_wp2_with fail
      refine (wireText_own A6 8 c6 _ dig w6 HR6.out (by omega) (by omega)).mono ?_
      rintro e w7 ⟨x7, rfl, ho, hb⟩
      have HO7 := Lib.hid (HO6.out.later hb); have HB7 := Lib.hid (HB6.out.trans (hb.mono HB6.out.size)); have HZ7 : Hid (G ≤ w7.heap.size) := Lib.hid (Nat.le_trans HZ6.out hb.size); have HF := Lib.hid (hb.mono HZ6.out)
      obtain ⟨A7, c7, hv, hr⟩ := ho.row
      have HR7 := Lib.hid hr; subst hv; clear hr ho hb HO6 HB6 HZ6 HR6
      have HL7 : Hid ((listB [key] ++ textB dig.data.toList).length = 8 + (8 + dig.size)) := by unfold Hid; rw [List.length_append, HL6.out, textS_len]
      rw [HL7.out] at HR7 ⊢
      go_wp2_with fail
      refine pieceEnd_normal ⟨HF.out, ?_⟩
      clear HF
      refine wpGrow_cons ?_
      refine wpQuiet_nil ?_
      go_wp2_with (at_builtin; go_must (refine wpList_app w7 rfl (.tmp 14) (.tmp 23) 30 30 5 rfl G Tryz.underlying30 u8_info rfl _ _ _ HO7.out rfl _ (8 + (8 + dig.size)) (bytesV (listB [key] ++ textB dig.data.toList)) (Row.src HR7.out Tryz.underlying30 (bytesV_one _)) rfl (by unfold maxLen; omega) (by omega) HZ7.out ?_); intro x8 w8 ho8 hb8; have HF : Hid (Below G w7 w8) := Lib.hid hb8; have HO8 : Hid (BOwn w8 G x8 EB) := Lib.hid (own_bytes HL7.out HEB.out ho8); clear ho8 hb8)
      go_wp2_with fail
      refine pieceEnd_normal ⟨HF.out, ?_⟩
      obtain ⟨A8, c8, hv8, hr8⟩ := HO8.out.row
      have HR8 := Lib.hid hr8
      subst hv8
      clear hr8 HO8
      refine wpGrow_nil ?_
      repeat (go_big_quiet_step (fail))
      refine wpQuiet_nil ?_
      go_wp2
      go_ret2
      exact ⟨A8, _, c8, by rw [HE2.out]; rfl, HR8.out, HB7.out.trans (HF.out.mono (by rw [HGG.out]; omega))⟩
  · have g1 : (cv == 0) = false := by simpa using h0
    go_wp2
    go_ret2
    exact ⟨none, 0, 0, by rw [HE.out, if_neg h0]; rfl, by rw [HB.out, if_neg h0]; exact Row.nilRow _ _, HB1.out⟩
end Go.Proofs.YtkglgboncngpbaaGreatDoor
/- Two statements as evidence: plain facts. -/
namespace Go.Proofs.YtkglgboncngpbaaGreatDoor
open Go.RowKit
/-- Two statements as a value. -/
def forkV (s : Stm) (A : Option Addr) (n c : Nat) (B : Option Addr) (m k : Nat) (t : Stm) (A2 : Option Addr) (n2 c2 : Nat) (B2 : Option Addr) (m2 k2 : Nat) : Value := .agg #[.int .i64 s.author, .int .i64 s.number, .string s.prev, .int .i64 s.time, .int .i64 s.kind, .int .i64 s.a, .int .i64 s.b, .int .i64 s.c, .slice A n c, .slice B m k, .string s.body, .int .i64 s.key, .string s.dig, .int .i64 t.author, .int .i64 t.number, .string t.prev, .int .i64 t.time, .int .i64 t.kind, .int .i64 t.a, .int .i64 t.b, .int .i64 t.c, .slice A2 n2 c2, .slice B2 m2 k2, .string t.body, .int .i64 t.key, .string t.dig]
theorem fork_cells {W : World} {g : Nat} {s : Stm} {A : Option Addr} {n c : Nat} {B : Option Addr} {m k : Nat} {t : Stm} {A2 : Option Addr} {n2 c2 : Nat} {B2 : Option Addr} {m2 k2 : Nat} {T : TypeId} {fr : Nat × Nat}
    (h : W.heap[g]? = some (.cells #[.int .i64 s.author, .int .i64 s.number, .string s.prev, .int .i64 s.time, .int .i64 s.kind, .int .i64 s.a, .int .i64 s.b, .int .i64 s.c, .slice A n c, .slice B m k, .string s.body, .int .i64 s.key, .string s.dig, .int .i64 t.author, .int .i64 t.number, .string t.prev, .int .i64 t.time, .int .i64 t.kind, .int .i64 t.a, .int .i64 t.b, .int .i64 t.c, .slice A2 n2 c2, .slice B2 m2 k2, .string t.body, .int .i64 t.key, .string t.dig] T fr)) :
    W.cell? ⟨g, 0, none⟩ = some (.int .i64 s.author) ∧ W.cell? ⟨g, 1, none⟩ = some (.int .i64 s.number) ∧ W.cell? ⟨g, 2, none⟩ = some (.string s.prev) ∧ W.cell? ⟨g, 3, none⟩ = some (.int .i64 s.time) ∧ W.cell? ⟨g, 4, none⟩ = some (.int .i64 s.kind) ∧ W.cell? ⟨g, 5, none⟩ = some (.int .i64 s.a) ∧ W.cell? ⟨g, 6, none⟩ = some (.int .i64 s.b) ∧ W.cell? ⟨g, 7, none⟩ = some (.int .i64 s.c) ∧ W.cell? ⟨g, 8, none⟩ = some (.slice A n c) ∧ W.cell? ⟨g, 9, none⟩ = some (.slice B m k) ∧ W.cell? ⟨g, 10, none⟩ = some (.string s.body) ∧ W.cell? ⟨g, 11, none⟩ = some (.int .i64 s.key) ∧ W.cell? ⟨g, 12, none⟩ = some (.string s.dig) ∧ W.cell? ⟨g, 13, none⟩ = some (.int .i64 t.author) ∧ W.cell? ⟨g, 14, none⟩ = some (.int .i64 t.number) ∧ W.cell? ⟨g, 15, none⟩ = some (.string t.prev) ∧ W.cell? ⟨g, 16, none⟩ = some (.int .i64 t.time) ∧ W.cell? ⟨g, 17, none⟩ = some (.int .i64 t.kind) ∧ W.cell? ⟨g, 18, none⟩ = some (.int .i64 t.a) ∧ W.cell? ⟨g, 19, none⟩ = some (.int .i64 t.b) ∧ W.cell? ⟨g, 20, none⟩ = some (.int .i64 t.c) ∧ W.cell? ⟨g, 21, none⟩ = some (.slice A2 n2 c2) ∧ W.cell? ⟨g, 22, none⟩ = some (.slice B2 m2 k2) ∧ W.cell? ⟨g, 23, none⟩ = some (.string t.body) ∧ W.cell? ⟨g, 24, none⟩ = some (.int .i64 t.key) ∧ W.cell? ⟨g, 25, none⟩ = some (.string t.dig) := by
  have h2 := fun i => cell_of_row _ _ i _ _ _ h
  exact ⟨(h2 0).trans rfl, (h2 1).trans rfl, (h2 2).trans rfl, (h2 3).trans rfl, (h2 4).trans rfl, (h2 5).trans rfl, (h2 6).trans rfl, (h2 7).trans rfl, (h2 8).trans rfl, (h2 9).trans rfl, (h2 10).trans rfl, (h2 11).trans rfl, (h2 12).trans rfl, (h2 13).trans rfl, (h2 14).trans rfl, (h2 15).trans rfl, (h2 16).trans rfl, (h2 17).trans rfl, (h2 18).trans rfl, (h2 19).trans rfl, (h2 20).trans rfl, (h2 21).trans rfl, (h2 22).trans rfl, (h2 23).trans rfl, (h2 24).trans rfl, (h2 25).trans rfl⟩
theorem fork_futs {F : World → World → Prop} (hr : ∀ w, F w w) {W : World} {g : Nat} {s : Stm} {A : Option Addr} {n c : Nat} {B : Option Addr} {m k : Nat} {t : Stm} {A2 : Option Addr} {n2 c2 : Nat} {B2 : Option Addr} {m2 k2 : Nat} {T : TypeId} {fr : Nat × Nat}
    (hF : ∀ w', F W w' → w'.heap[g]? = W.heap[g]?) (h : W.heap[g]? = some (.cells #[.int .i64 s.author, .int .i64 s.number, .string s.prev, .int .i64 s.time, .int .i64 s.kind, .int .i64 s.a, .int .i64 s.b, .int .i64 s.c, .slice A n c, .slice B m k, .string s.body, .int .i64 s.key, .string s.dig, .int .i64 t.author, .int .i64 t.number, .string t.prev, .int .i64 t.time, .int .i64 t.kind, .int .i64 t.a, .int .i64 t.b, .int .i64 t.c, .slice A2 n2 c2, .slice B2 m2 k2, .string t.body, .int .i64 t.key, .string t.dig] T fr)) :
    (∀ x, (fut F W x).cell? ⟨g, 0, none⟩ = some (.int .i64 s.author)) ∧ (∀ x, (fut F W x).cell? ⟨g, 1, none⟩ = some (.int .i64 s.number)) ∧ (∀ x, (fut F W x).cell? ⟨g, 2, none⟩ = some (.string s.prev)) ∧ (∀ x, (fut F W x).cell? ⟨g, 3, none⟩ = some (.int .i64 s.time)) ∧ (∀ x, (fut F W x).cell? ⟨g, 4, none⟩ = some (.int .i64 s.kind)) ∧ (∀ x, (fut F W x).cell? ⟨g, 5, none⟩ = some (.int .i64 s.a)) ∧ (∀ x, (fut F W x).cell? ⟨g, 6, none⟩ = some (.int .i64 s.b)) ∧ (∀ x, (fut F W x).cell? ⟨g, 7, none⟩ = some (.int .i64 s.c)) ∧ (∀ x, (fut F W x).cell? ⟨g, 8, none⟩ = some (.slice A n c)) ∧ (∀ x, (fut F W x).cell? ⟨g, 9, none⟩ = some (.slice B m k)) ∧ (∀ x, (fut F W x).cell? ⟨g, 10, none⟩ = some (.string s.body)) ∧ (∀ x, (fut F W x).cell? ⟨g, 11, none⟩ = some (.int .i64 s.key)) ∧ (∀ x, (fut F W x).cell? ⟨g, 12, none⟩ = some (.string s.dig)) ∧ (∀ x, (fut F W x).cell? ⟨g, 13, none⟩ = some (.int .i64 t.author)) ∧ (∀ x, (fut F W x).cell? ⟨g, 14, none⟩ = some (.int .i64 t.number)) ∧ (∀ x, (fut F W x).cell? ⟨g, 15, none⟩ = some (.string t.prev)) ∧ (∀ x, (fut F W x).cell? ⟨g, 16, none⟩ = some (.int .i64 t.time)) ∧ (∀ x, (fut F W x).cell? ⟨g, 17, none⟩ = some (.int .i64 t.kind)) ∧ (∀ x, (fut F W x).cell? ⟨g, 18, none⟩ = some (.int .i64 t.a)) ∧ (∀ x, (fut F W x).cell? ⟨g, 19, none⟩ = some (.int .i64 t.b)) ∧ (∀ x, (fut F W x).cell? ⟨g, 20, none⟩ = some (.int .i64 t.c)) ∧ (∀ x, (fut F W x).cell? ⟨g, 21, none⟩ = some (.slice A2 n2 c2)) ∧ (∀ x, (fut F W x).cell? ⟨g, 22, none⟩ = some (.slice B2 m2 k2)) ∧ (∀ x, (fut F W x).cell? ⟨g, 23, none⟩ = some (.string t.body)) ∧ (∀ x, (fut F W x).cell? ⟨g, 24, none⟩ = some (.int .i64 t.key)) ∧ (∀ x, (fut F W x).cell? ⟨g, 25, none⟩ = some (.string t.dig)) := by
  have h2 := fun x i => cell_of_row _ _ i _ _ _ ((hF _ (fut_ok hr W x)).trans h)
  exact ⟨fun x => (h2 x 0).trans rfl, fun x => (h2 x 1).trans rfl, fun x => (h2 x 2).trans rfl, fun x => (h2 x 3).trans rfl, fun x => (h2 x 4).trans rfl, fun x => (h2 x 5).trans rfl, fun x => (h2 x 6).trans rfl, fun x => (h2 x 7).trans rfl, fun x => (h2 x 8).trans rfl, fun x => (h2 x 9).trans rfl, fun x => (h2 x 10).trans rfl, fun x => (h2 x 11).trans rfl, fun x => (h2 x 12).trans rfl, fun x => (h2 x 13).trans rfl, fun x => (h2 x 14).trans rfl, fun x => (h2 x 15).trans rfl, fun x => (h2 x 16).trans rfl, fun x => (h2 x 17).trans rfl, fun x => (h2 x 18).trans rfl, fun x => (h2 x 19).trans rfl, fun x => (h2 x 20).trans rfl, fun x => (h2 x 21).trans rfl, fun x => (h2 x 22).trans rfl, fun x => (h2 x 23).trans rfl, fun x => (h2 x 24).trans rfl, fun x => (h2 x 25).trans rfl⟩
/-- Two statements of one author and number, the first one with the lesser digest. -/
def twoB (s t : Stm) : Bool := decide (s.author = t.author) && (decide (s.number = t.number) && Op.bytesLess s.dig.toList t.dig.toList)
/-- What Check answers of evidence. -/
def checkF (s t : Stm) : Int := if checkV s = 0 then (if checkV t = 0 then (if sealedB s = true then (if sealedB t = true then (if twoB s t = true then 0 else 12) else 6) else 6) else checkV t) else checkV s
/-- The bytes of evidence. -/
def encF (s t : Stm) : List UInt8 := if checkF s t = 0 then textB (wholeB s) ++ textB (wholeB t) else []
theorem checkF_parts {s t : Stm} (h : checkF s t = 0) : checkV s = 0 ∧ checkV t = 0 ∧ sealedB s = true ∧ sealedB t = true ∧ twoB s t = true := by
  unfold checkF at h
  by_cases h1 : checkV s = 0
  · rw [if_pos h1] at h
    by_cases h2 : checkV t = 0
    · rw [if_pos h2] at h
      by_cases h3 : sealedB s = true
      · rw [if_pos h3] at h
        by_cases h4 : sealedB t = true
        · rw [if_pos h4] at h
          by_cases h5 : twoB s t = true
          · exact ⟨h1, h2, h3, h4, h5⟩
          · rw [if_neg h5] at h; cases h
        · rw [if_neg h4] at h; cases h
      · rw [if_neg h3] at h; cases h
    · rw [if_neg h2] at h; exact absurd h h2
  · rw [if_neg h1] at h; exact absurd h h1
theorem checkF_two {s t : Stm} (h1 : checkV s = 0) (h2 : checkV t = 0) (h3 : sealedB s = true) (h4 : sealedB t = true) : checkF s t = if twoB s t = true then 0 else 12 := by
  unfold checkF
  rw [if_pos h1, if_pos h2, if_pos h3, if_pos h4]
/-- Element 0, and 1, of an array of two statements. -/
theorem run_two0 (s : Stm) (A : Option Addr) (n c : Nat) (B : Option Addr) (m k : Nat) (t : Stm) (A2 : Option Addr) (n2 c2 : Nat) (B2 : Option Addr) (m2 k2 : Nat) (w : World) : (Instr.index 84 (forkV s A n c B m k t A2 n2 c2 B2 m2 k2) (.int .i64 0)).run Tryz.prog w = .ok (stmV s A n c B m k) w := by
  have hsz : ∀ w, (sizeOf 27).run Tryz.prog w = .ok 13 w := fun w => by kernel_rfl
  have hag : ∀ w, (isAgg 27).run Tryz.prog w = .ok true w := fun w => by kernel_rfl
  simp [Instr.index, forkV, asIntOf, run_underlying Tryz.underlying84, hsz, hag, part, Result.andThen, stmV]
theorem run_two1 (s : Stm) (A : Option Addr) (n c : Nat) (B : Option Addr) (m k : Nat) (t : Stm) (A2 : Option Addr) (n2 c2 : Nat) (B2 : Option Addr) (m2 k2 : Nat) (w : World) : (Instr.index 84 (forkV s A n c B m k t A2 n2 c2 B2 m2 k2) (.int .i64 1)).run Tryz.prog w = .ok (stmV t A2 n2 c2 B2 m2 k2) w := by
  have hsz : ∀ w, (sizeOf 27).run Tryz.prog w = .ok 13 w := fun w => by kernel_rfl
  have hag : ∀ w, (isAgg 27).run Tryz.prog w = .ok true w := fun w => by kernel_rfl
  simp [Instr.index, forkV, asIntOf, run_underlying Tryz.underlying84, hsz, hag, part, Result.andThen, stmV]
end Go.Proofs.YtkglgboncngpbaaGreatDoor
/- The walk of chain.isBehind. -/
namespace Go.Proofs.YtkglgboncngpbaaGreatDoor
open Go.RowKit
/-- b comes behind a, but for the digest. -/
def behindB (a b : Stm) : Bool := decide (b.author = a.author) && (decide (a.number < b.number) && (decide (b.number - 1 = a.number) && decide (a.time ≤ b.time)))
end Go.Proofs.YtkglgboncngpbaaGreatDoor
/- The walk of trustflowmade.Mod. -/
namespace Go.Proofs.YtkglgboncngpbaaGreatDoor
open Go.RowKit
def modF (n m : Int) : Int := if n.tmod m < 0 then n.tmod m + m else n.tmod m
theorem tmod_bd (n m : Int) (hm : 1 ≤ m) : -m < n.tmod m ∧ n.tmod m < m := by
  constructor
  · have := Int.lt_tmod_of_pos n (show 0 < m by omega); omega
  · exact Int.tmod_lt_of_pos n (by omega)
theorem modF_bd (n m : Int) (hm : 1 ≤ m) : 0 ≤ modF n m ∧ modF n m < m := by
  have h := tmod_bd n m hm
  unfold modF; split <;> omega
set_option maxHeartbeats 400000 in
theorem mod_any (n m : Int) (w : World) (hm : 1 ≤ m) (hm2 : m ≤ 1000000) : Calls Tryz.prog 25 #[.int .i64 n, .int .i64 m] w fun e w' => e = .returned (.int .i64 (modF n m)) ∧ w = w' := by
  have hb := tmod_bd n m hm
  by_cases h0 : n.tmod m < 0
  all_goals
    go_enter Tryz.func25, Tryz.ntmps25
    go_wp2
    go_ret
    exact ⟨by unfold modF; first | (rw [if_pos h0]; rfl) | (rw [if_neg (by omega)]; rfl), rfl⟩
end Go.Proofs.YtkglgboncngpbaaGreatDoor
/- The walks of trustflowmade's dice: Light, Roll, Next, Of. -/
namespace Go.Proofs.YtkglgboncngpbaaGreatDoor
open Go.RowKit
/-- Of what was there nothing has turned but block D. -/
structure But (D : Nat) (w w' : World) : Prop where
  os : w'.os = w.os
  tape : w'.tape = w.tape
  output : w'.output = w.output
  size : w.heap.size ≤ w'.heap.size
  block : ∀ k, k < w.heap.size → k ≠ D → w'.heap[k]? = w.heap[k]?
theorem But.refl (D : Nat) (w : World) : But D w w := ⟨rfl, rfl, rfl, Nat.le_refl _, fun _ _ _ => rfl⟩
theorem But.trans {D : Nat} {a b c : World} (h : But D a b) (k : But D b c) : But D a c :=
  ⟨k.os.trans h.os, k.tape.trans h.tape, k.output.trans h.output, Nat.le_trans h.size k.size, fun i hi hne => (k.block i (Nat.lt_of_lt_of_le hi h.size) hne).trans (h.block i hi hne)⟩
theorem But.of {D : Nat} {w w' : World} (h : Below w.heap.size w w') : But D w w' := ⟨h.os, h.tape, h.output, h.size, fun k hk _ => h.block k hk⟩
/-- Where block D is of the call's own. -/
theorem But.below {D B : Nat} {w w' : World} (h : But D w w') (hD : B ≤ D) (hB : B ≤ w.heap.size) : Below B w w' := ⟨h.os, h.tape, h.output, h.size, fun k hk => h.block k (by omega) (by omega)⟩
theorem But.set {D : Nat} (w : World) (o : Nat) (v : Value) : But D w (w.setCell ⟨D, o, none⟩ v) := ⟨rfl, rfl, rfl, by simp [World.setCell], fun k _ hne => Below.heap_setCell _ _ _ _ hne⟩
theorem below_dN (B : Nat) (w : World) (n : Nat) : Below B w (w.drewN n) := ⟨rfl, rfl, rfl, Nat.le_refl _, fun _ _ => rfl⟩
theorem But.drewN {D : Nat} (w : World) (n : Nat) : But D w (w.drewN n) := ⟨rfl, rfl, rfl, Nat.le_refl _, fun _ _ _ => rfl⟩
theorem Row.but {w w' : World} {A : Option Addr} {n c sz D : Nat} {cs : List Value} (h : Row w A n c sz cs) (hb : But D w w') (hs : ∀ ad, A = some ad → 0 < n → ad.block ≠ D) : Row w' A n c sz cs :=
  h.keep fun ad hA h0 hlt => hb.block _ hlt (hs ad hA h0)
theorem But.grow {D : Nat} {w w1 w2 : World} (h : But D w w1) (hb : Below w.heap.size w1 w2) : But D w w2 :=
  ⟨hb.os.trans h.os, hb.tape.trans h.tape, hb.output.trans h.output, Nat.le_trans h.size hb.size, fun k hk hne => (hb.block k hk).trans (h.block k hk hne)⟩
theorem own_but {w w' : World} {B D : Nat} {e : TypeId} {sz : Nat} {v : Value} {n : Nat} {xs : List Value} (h : w.ownsRow B e sz v n xs) (hb : But D w w') (hD : D < B) : w'.ownsRow B e sz v n xs := by
  refine ⟨h.1, ?_⟩
  rcases h.2 with hn | ⟨g, cap, cur, rfl, hg, hgg, rest⟩
  · exact .inl hn
  · exact .inr ⟨g, cap, cur, rfl, hg, (hb.block g (Array.getElem?_eq_some_iff.1 hgg).1 (by omega)).trans hgg, rest⟩
/-- Dice of the numbers t, k of which have been given out, lie in block D; the numbers lie below block L. -/
structure DiceAt (w : World) (L D : Nat) (t : List Int) (k : Nat) : Prop where
  here : ∃ A n c, w.heap[D]? = some (.cells #[.slice A n c, .int .i64 k] 65 (0, 0)) ∧ Row w A n c 1 (intsV t) ∧ (∀ ad, A = some ad → 0 < n → ad.block < L)
  low : L ≤ D
  le : k ≤ t.length
  few : t.length ≤ 1000000
theorem DiceAt.lt {w : World} {L D k : Nat} {t : List Int} (h : DiceAt w L D t k) : D < w.heap.size := by
  obtain ⟨A, n, c, h1, _⟩ := h.here; exact (Array.getElem?_eq_some_iff.1 h1).1
/-- It stays where nothing has turned up to block D. -/
theorem DiceAt.below {w w' : World} {L D B k : Nat} {t : List Int} (h : DiceAt w L D t k) (hb : Below B w w') (hD : D < B) : DiceAt w' L D t k := by
  obtain ⟨A, n, c, h1, h2, h3⟩ := h.here
  exact ⟨⟨A, n, c, (hb.block D hD).trans h1, h2.keep (fun ad hA h0 _ => hb.block _ (Nat.lt_trans (Nat.lt_of_lt_of_le (h3 ad hA h0) h.low) hD)), h3⟩, h.low, h.le, h.few⟩
theorem DiceAt.later {w w' : World} {L D k : Nat} {t : List Int} (h : DiceAt w L D t k) (hb : Later w w') : DiceAt w' L D t k := h.below hb h.lt
/-- It stays where nothing has turned but another block, not below L. -/
theorem DiceAt.but {w w' : World} {L D E k : Nat} {t : List Int} (h : DiceAt w L D t k) (hb : But E w w') (hne : D ≠ E) (hE : L ≤ E) : DiceAt w' L D t k := by
  obtain ⟨A, n, c, h1, h2, h3⟩ := h.here
  exact ⟨⟨A, n, c, (hb.block D h.lt hne).trans h1, h2.but hb (fun ad hA h0 => by have := h3 ad hA h0; omega), h3⟩, h.low, h.le, h.few⟩
/-- What the next number is, and how many have been given out then. -/
def diceV (t : List Int) (k : Nat) (m : Int) : Int := if k < t.length then modF (t.getD k 0) m else 0
def diceK (t : List Int) (k : Nat) : Nat := if k < t.length then k + 1 else k
theorem diceV_bd (t : List Int) (k : Nat) (m : Int) (hm : 1 ≤ m) : 0 ≤ diceV t k m ∧ diceV t k m < m := by
  unfold diceV; split
  · exact modF_bd _ _ hm
  · omega
set_option maxHeartbeats 1000000 in
theorem next_any (L D : Nat) (t : List Int) (k : Nat) (m : Int) (w : World) (h : DiceAt w L D t k) (hm : 1 ≤ m) (hm2 : m ≤ 1000000) :
    Calls Tryz.prog 23 #[.pointer (some ⟨D, 0, none⟩), .int .i64 m] w fun e w' => e = .returned (.int .i64 (diceV t k m)) ∧ DiceAt w' L D t (diceK t k) ∧ But D w w' := by
  obtain ⟨A, n, c, h1, h2, h3⟩ := h.here
  have hl := h2.len
  rw [intsV_len, Nat.mul_one] at hl
  have hk := h.le
  have hf := h.few
  have hc0 : w.cell? ⟨D, 0, none⟩ = some (.slice A n c) := by rw [cell_of_row _ _ _ _ _ _ h1]; rfl
  have hc1 : w.cell? ⟨D, 1, none⟩ = some (.int .i64 k) := by rw [cell_of_row _ _ _ _ _ _ h1]; rfl
  have hfz : w.frozen? ⟨D, 1, none⟩ = false := frozen_of_row _ _ _ _ _ h1
  by_cases hlt : k < n
  · obtain ⟨b, off, hA, hcell⟩ := h2.form (by omega)
    have hx := hcell k (by omega)
    rw [intsV_get _ _ (by omega)] at hx
    unfold iv at hx
    have hlow := h.low
    have hne : b ≠ D := Nat.ne_of_lt (Nat.lt_of_lt_of_le (h3 _ hA (by omega)) hlow)
    have HV : Hid (diceV t k m = modF (t.getD k 0) m) := by unfold Hid diceV; rw [if_pos (by omega)]
    have HK : Hid (diceK t k = k + 1) := by unfold Hid diceK; rw [if_pos (by omega)]
    have H2 := Lib.hid h2; have H3 := Lib.hid h3; have H := Lib.hid h; have H1 := Lib.hid h1
    subst hA
    have hkb : k ≤ 1000000 := by omega
    clear h h1 h2 h3 hcell hl hk hf
    generalize t.getD k 0 = x at hx HV
    go_enter Tryz.func23, Tryz.ntmps23
    go_wp2_with fail
    go_quiet (fail)
    go_wp2_with fail
    have hb : But D w ((w.drewN nq).setCell ⟨D, 1, none⟩ (.int .i64 ((k : Int) + 1))) := (But.drewN w nq).trans (But.set _ _ _)
    have g1 : ((w.drewN nq).setCell ⟨D, 1, none⟩ (.int .i64 ((k : Int) + 1))).heap[D]? = some (.cells #[.slice (some ⟨b, off, none⟩) n c, .int .i64 ((k : Int) + 1)] 65 (0, 0)) :=
      heap_setCell_same (w.drewN nq) D 1 #[.slice (some ⟨b, off, none⟩) n c, .int .i64 k] _ _ H1.out
    generalize (w.drewN nq).setCell ⟨D, 1, none⟩ (.int .i64 ((k : Int) + 1)) = w2 at hb g1 ⊢
    have hd : DiceAt w2 L D t (k + 1) := ⟨⟨_, n, c, by rw [g1]; rfl, H2.out.but hb (fun ad hA h0 => Nat.ne_of_lt (Nat.lt_of_lt_of_le (H3.out ad hA h0) hlow)), H3.out⟩, hlow, by have := H2.out.len; rw [intsV_len, Nat.mul_one] at this; omega, H.out.few⟩
    clear hc0 hc1 hfz
    have hc0 : w2.cell? ⟨D, 0, none⟩ = some (.slice (some ⟨b, off, none⟩) n c) := by rw [cell_of_row _ _ _ _ _ _ g1]; rfl
    have hc1 : w2.cell? ⟨D, 1, none⟩ = some (.int .i64 ((k : Int) + 1)) := by rw [cell_of_row _ _ _ _ _ _ g1]; rfl
    have hx2 : w2.cell? ⟨b, off + k, none⟩ = some (.int .i64 x) := by
      rw [World.cell?_of_block (w := w) (a := ⟨b, off + k, none⟩) (hb.block b (World.block_lt_of_cell? w (a := ⟨b, off + k, none⟩) hx) hne)]; exact hx
    have HB := Lib.hid hb; have HD := Lib.hid hd; clear hb hd g1 hx
    have h0 : (0 : Int) ≤ (k : Int) + 1 - 1 := by omega
    have h00 : (k : Int) + 1 - 1 < n := by omega
    have h000 : ((k : Int) + 1 - 1).toNat = k := by omega
    go_quiet ((go_at_call 25; exact Calls.quiet_of_same ((mod_any x m _ hm hm2).mono (fun _ _ ⟨h1, h2⟩ => ⟨h1, h2.symm⟩))))
    go_wp2
    go_ret
    exact ⟨by rw [HV.out]; rfl, by rw [HK.out]; exact HD.out.later (below_dN _ _ _), HB.out.trans (But.drewN _ _)⟩
  · have HV : Hid (diceV t k m = 0) := by unfold Hid diceV; rw [if_neg (by omega)]
    have HK : Hid (diceK t k = k) := by unfold Hid diceK; rw [if_neg (by omega)]
    have H := Lib.hid h
    have hge : n ≤ k := by omega
    clear h h1 h2 h3 hl hk hf hfz
    go_enter Tryz.func23, Tryz.ntmps23
    go_wp2_with fail
    go_quiet (fail)
    go_wp2
    go_ret
    exact ⟨by rw [HV.out]; rfl, by rw [HK.out]; exact H.out.later (below_dN _ _ _), But.drewN _ _⟩
theorem light_any (A : Option Addr) (n c : Nat) (w : World) : Calls Tryz.prog 11 #[.slice A n c] w fun e w' => e = .returned (.bool (decide (n ≤ 400))) ∧ w = w' := by
  go_enter Tryz.func11, Tryz.ntmps11
  go_wp2
  go_ret
  exact ⟨by simp; omega, rfl⟩
set_option maxHeartbeats 1000000 in
theorem roll_any (L : Nat) (A : Option Addr) (n c : Nat) (t : List Int) (w : World) (h : Row w A n c 1 (intsV t)) (hn : n ≤ 1000000) (hL : L ≤ w.heap.size) (hA : ∀ ad, A = some ad → 0 < n → ad.block < L) :
    Calls Tryz.prog 12 #[.slice A n c] w fun e w' => e = .returned (.pointer (some ⟨w.heap.size, 0, none⟩)) ∧ DiceAt w' L w.heap.size t 0 ∧ Below w.heap.size w w' := by
  have H := Lib.hid h; have hl := h.len; rw [intsV_len, Nat.mul_one] at hl; have HL := Lib.hid hl; have HA := Lib.hid hA; clear h hl hA
  go_enter Tryz.func12, Tryz.ntmps12
  go_wp2
  go_ret
  exact ⟨rfl, ⟨⟨A, n, c, heap_alloc_new _ _, H.out.later ((Below.refl _ _).alloc (Nat.le_refl _) _), HA.out⟩, hL, Nat.zero_le _, by rw [HL.out]; exact hn⟩, (Below.refl _ _).alloc (Nat.le_refl _) _⟩
end Go.Proofs.YtkglgboncngpbaaGreatDoor
