/- The walk of the law DigestLong. -/
import Derived.Test.YtnakcgikiepceaaDoorLaw
namespace Go.Proofs.YtnakcgikiepceaaDoor
open Go.RowKit
/-- What the reference's Sum is to return. -/
def RefSays : Prop := ∀ (A : Option Addr) (n c : Nat) (m : List UInt8) (w : World), SliceAt w A n c m → n ≤ 900000 →
    Calls Tryd.prog 7 #[.slice A n c] w fun e w' => e = .returned (.string (strOf (shaL m n))) ∧ Below w.heap.size w w'
/-- A row of bytes that may be written. -/
def BR (w : World) (g : Nat) (l : List UInt8) : Prop := ∃ cur, w.heap[g]? = some (.cells cur 5 (0, 0)) ∧ ∀ i, i < l.length → cur[i]? = some (bv (l.getD i 0))
theorem BR.cell {w : World} {g : Nat} {l : List UInt8} (h : BR w g l) (i : Nat) (hi : i < l.length) : w.cell? ⟨g, i, none⟩ = some (bv (l.getD i 0)) := by
  obtain ⟨cur, h1, h2⟩ := h
  rw [cell_of_row _ _ _ _ _ _ h1]; exact h2 i hi
theorem BR.frozen {w : World} {g : Nat} {l : List UInt8} (h : BR w g l) (i : Nat) : w.frozen? ⟨g, i, none⟩ = false := by
  obtain ⟨cur, h1, _⟩ := h; exact frozen_of_row _ _ _ _ _ h1
theorem BR.set {w : World} {g : Nat} {l : List UInt8} (h : BR w g l) {k : Nat} (hk : k < l.length) (x : UInt8) : BR (w.setCell ⟨g, k, none⟩ (bv x)) g (l.set k x) := by
  obtain ⟨cur, h1, h2⟩ := h
  have hkc : k < cur.size := by
    rcases Nat.lt_or_ge k cur.size with h3 | h3
    · exact h3
    · have := h2 k hk; rw [Array.getElem?_eq_none h3] at this; cases this
  refine ⟨cur.setIfInBounds k (bv x), heap_setCell_same _ _ _ _ _ _ h1, fun i hi => ?_⟩
  rw [List.length_set] at hi
  by_cases e : k = i
  · subst e
    rw [Array.getElem?_setIfInBounds_self_of_lt hkc]
    simp [hi]
  · rw [Array.getElem?_setIfInBounds_ne e, h2 i hi]
    simp [e]
theorem BR.slice {w : World} {g n : Nat} {l : List UInt8} (h : BR w g l) (hl : l.length = n) : SliceAt w (some ⟨g, 0, none⟩) n n l :=
  ⟨hl, Nat.le_refl _, (fun e => by cases e), (fun ad e _ => by
    injection e with e; subst e
    exact ⟨g, 0, rfl, fun i hi => by rw [Nat.zero_add]; exact h.cell i (by omega)⟩)⟩
theorem br_made {w : World} {B g n c : Nat} (h : w.ownsRow B 5 1 (.slice (some ⟨g, 0, none⟩) n c) n (madeCells (Value.int .u8 0).cells (n * 1)).toList) : BR w g (List.replicate n 0) := by
  rcases h.2 with ⟨h0, _⟩ | ⟨g', cap, cur, h0, _, hg, _, _, _, ht⟩
  · cases h0
  · injection h0 with h1 _ _
    injection h1 with h1
    injection h1 with h1
    subst h1
    refine ⟨cur, hg, fun i hi => ?_⟩
    rw [List.length_replicate] at hi
    have h3 : (cur.toList.take (n * 1))[i]? = some (Value.int .u8 0) := by
      rw [ht, Nat.mul_one]
      show (madeCells #[Value.int .u8 0] n).toList[i]? = _
      rw [toList_madeCells_one, List.getElem?_replicate, if_pos hi]
    rw [List.getElem?_take, if_pos (by omega)] at h3
    have h4 : cur[i]? = some (Value.int .u8 0) := by simpa using h3
    rw [h4]
    simp [hi]; rfl
theorem byte_of (z : Int) : ∃ x : UInt8, z % 256 = w8 x := by
  refine ⟨UInt8.ofNat (z % 256).toNat, ?_⟩
  unfold w8; rw [UInt8.toNat_ofNat']; omega
set_option maxRecDepth 20000 in
set_option maxHeartbeats 1000000 in
theorem long_any (href : RefSays) (n x : Int) (w : World) (hr : Rounds w) : Calls Tryd.prog 3 #[.int .i64 n, .int .u8 x] w fun e w' => e = .returned (.bool true) ∧ Below w.heap.size w w' := by
  have HR := Lib.hid hr; clear hr
  obtain ⟨i0, hi0, hz0, hz1, hz2⟩ := info_parts u8_info
  have hbd := modF_bd n 200 (by omega)
  go_enter Tryd.func3, Tryd.ntmps3
  go_wp2_with fail
  refine (mod_any _ _ _ (by omega) (by omega)).mono ?_
  rintro e w' ⟨rfl, rfl⟩
  generalize modF n 200 = L at hbd ⊢
  obtain ⟨N, rfl⟩ := Int.eq_ofNat_of_zero_le hbd.1
  have hN : N < 200 := by omega
  go_wp2_with (at_make; refine wpList_make_full _ rfl (.tmp 8) (.tmp 8) 22 rfl w.heap.size 5 i0 (.int .u8 0) 1 Tryd.underlying22 hi0 hz0 hz1 .i64 .i64 _ _ N rfl rfl rfl rfl (by rw [hz2]; omega) (by unfold maxLen; omega) (Nat.le_refl _) ?_; intro w1 hown1 hg1)
  have hb1 : BR w1 w.heap.size (List.replicate N 0) := br_made hown1
  have hbl1 : Below w.heap.size w w1 := (Below.refl _ _).grown hg1 (Nat.le_refl _) (fun k hk => by cases hk)
  have HB1 := Lib.hid hb1; have HBL1 := Lib.hid hbl1; clear hb1 hbl1 hown1 hg1
  go_loopw [6] (fun i wr => ∃ k : Nat, k ≤ N ∧ i = .int .i64 k ∧ Hid (∃ l : List UInt8, l.length = N ∧ BR wr w.heap.size l ∧ Below w.heap.size w wr)) (fun i _ => N - (intOf i).toNat)
  case atStart => exact ⟨0, by omega, rfl, Lib.hid ⟨_, List.length_replicate, HB1.out, HBL1.out⟩⟩
  case round =>
    obtain ⟨k, hk, rfl, HI⟩ := hrel
    by_cases hlt : k < N
    · obtain ⟨l, hl, hbr, hbl⟩ := HI.out
      clear HI
      have hs := hbr.cell k (by omega)
      have hf := hbr.frozen k
      have HL := Lib.hid hl; have HBR := Lib.hid hbr; have HBL := Lib.hid hbl; clear hl hbr hbl
      go_wp2
      obtain ⟨y, hy⟩ := byte_of (x + (k : Int))
      rw [hy]
      exact ⟨⟨k + 1, by omega, by go_num, Lib.hid ⟨l.set k y, by rw [List.length_set]; exact HL.out, HBR.out.set (by rw [HL.out]; exact hlt) y, HBL.out.setCell (by simp) _⟩⟩, by simp [intOf]; omega⟩
    · obtain ⟨l, hl, hbr, hbl⟩ := HI.out
      clear HI hi0 hz0 hz1 hz2
      have HSL := Lib.hid (hbr.slice hl); have HBL := Lib.hid hbl; have HRR := Lib.hid (HR.out.below hbl HR.out.lt)
      clear hbr hbl hl hbd
      have h32 := shaL_len l N
      obtain ⟨D, hD⟩ : ∃ D, D = strOf (shaL l N) := ⟨_, rfl⟩
      have hDs : D.size = 32 := by rw [hD, strOf_size]; exact h32
      have HD := Lib.hid hD; clear hD h32
      go_wp2_with (go_at_call 5; refine (awake_any wr HRR.out).mono ?_; rintro e w2 ⟨rfl, hb2⟩)
      have HB2 := Lib.hid hb2; clear hb2
      have hsum : ∀ W, Below wr.heap.size wr W → Calls Tryd.prog 6 #[.slice (some ⟨w.heap.size, 0, none⟩) N N] W fun e w' => e = .returned (.string D) ∧ Below W.heap.size W w' := fun W hb => by
        rw [HD.out]; exact sum_any _ N N l W (HSL.out.below hb) (by omega) (HRR.out.below hb HRR.out.lt)
      have hrefs : ∀ W, Below wr.heap.size wr W → Calls Tryd.prog 7 #[.slice (some ⟨w.heap.size, 0, none⟩) N N] W fun e w' => e = .returned (.string D) ∧ Below W.heap.size W w' := fun W hb => by
        rw [HD.out]; exact href _ N N l W (HSL.out.below hb) (by omega)
      have HSUM := Lib.hid hsum; have HREF := Lib.hid hrefs; clear hsum hrefs
      go_wp2_with (first
        | (go_at_call 6; refine (HSUM.out _ HB2.out).mono ?_; rintro e w3 ⟨rfl, hb3⟩; have HB3 := Lib.hid (HB2.out.trans (hb3.mono HB2.out.size)); clear hb3))
      refine (HREF.out _ HB3.out).mono ?_
      rintro e w4 ⟨rfl, hb4⟩
      have HB4 := Lib.hid (HB3.out.trans (hb4.mono HB3.out.size)); clear hb4
      go_wp2_with fail
      refine (HSUM.out _ HB4.out).mono ?_
      rintro e w5 ⟨rfl, hb5⟩
      have HB5 := Lib.hid (HB4.out.trans (hb5.mono HB4.out.size)); clear hb5
      go_wp2
      go_ret
      exact ⟨rfl, HBL.out.trans (HB5.out.mono HBL.out.size)⟩
end Go.Proofs.YtnakcgikiepceaaDoor
