/- The walks of trustflowmade's dice: Bytes, Some. -/
import Derived.Test.YtmccnfdadipgiaaDice
import Derived.Test.YtmccnfdadipgiaaTakes
namespace Go.Proofs.Ytmccnfdadipgiaa
open Go.RowKit
def byteTab : List Int := [0, 1, 255, 7, 128, 126, 32]
def byteAt (t : List Int) (k : Nat) : Int := byteTab.getD (diceV t k 7).toNat 0
theorem byteAt_bd (t : List Int) (k : Nat) : 0 ≤ byteAt t k ∧ byteAt t k ≤ 255 := by
  have h := diceV_bd t k 7 (by omega)
  unfold byteAt
  generalize diceV t k 7 = v at h
  have h7 : v.toNat = 0 ∨ v.toNat = 1 ∨ v.toNat = 2 ∨ v.toNat = 3 ∨ v.toNat = 4 ∨ v.toNat = 5 ∨ v.toNat = 6 := by omega
  rcases h7 with e | e | e | e | e | e | e <;> rw [e] <;> decide
/-- Bytes, and how many numbers have been given out behind them. -/
def diceBs (t : List Int) : Nat → Nat → List UInt8 × Nat
  | 0, k => ([], k)
  | j + 1, k => ((diceBs t j k).1 ++ [UInt8.ofNat (byteAt t (diceBs t j k).2).toNat], diceK t (diceBs t j k).2)
theorem diceBs_len (t : List Int) (j k : Nat) : (diceBs t j k).1.length = j := by
  induction j with
  | zero => rfl
  | succ j ih => simp [diceBs, ih]
def diceBytes (t : List Int) (k : Nat) (most : Int) : List UInt8 × Nat := diceBs t (diceV t k (most + 1)).toNat (diceK t k)
/-- Some of the numbers below n. -/
def diceSs (t : List Int) : Nat → Nat → List Int × Nat
  | 0, k => ([], k)
  | j + 1, k => (if diceV t (diceSs t j k).2 3 = 0 then (diceSs t j k).1 ++ [(j : Int)] else (diceSs t j k).1, diceK t (diceSs t j k).2)
theorem diceSs_len (t : List Int) (j k : Nat) : (diceSs t j k).1.length ≤ j := by
  induction j with
  | zero => exact Nat.le_refl _
  | succ j ih =>
    simp only [diceSs]
    split
    · rw [List.length_append]; simp; omega
    · omega
theorem diceSs_in (t : List Int) (j k : Nat) : ∀ z ∈ (diceSs t j k).1, 0 ≤ z ∧ z < j := by
  induction j with
  | zero => intro z h; cases h
  | succ j ih =>
    intro z h
    simp only [diceSs] at h
    split at h
    · rcases List.mem_append.1 h with h | h
      · have := ih z h; omega
      · have : z = j := by simpa using h
        omega
    · have := ih z h; omega
set_option maxRecDepth 20000 in
set_option maxHeartbeats 1000000 in
theorem bytes_any (L D : Nat) (t : List Int) (k : Nat) (most : Int) (w : World) (h : DiceAt w L D t k) (h0 : 0 ≤ most) (hm : most ≤ 100000) :
    Calls Try.prog 23 #[.pointer (some ⟨D, 0, none⟩), .int .i64 most] w fun e w' => ∃ v, e = .returned v ∧ BOwn w' w.heap.size v (diceBytes t k most).1 ∧ DiceAt w' L D t (diceBytes t k most).2 ∧ But D w w' := by
  have H := Lib.hid h; have hD := h.lt; clear h
  have hv := diceV_bd t k (most + 1) (by omega)
  go_enter Try.func23, Try.ntmps23
  go_wp2_with fail
  refine (next_any L D t k (most + 1) w H.out (by omega) (by omega)).mono ?_
  rintro e w1 ⟨rfl, hd, hb⟩
  have HD := Lib.hid hd; have HB := Lib.hid hb; clear hd hb
  have HE : Hid (diceBytes t k most = diceBs t (diceV t k (most + 1)).toNat (diceK t k)) := Lib.hid rfl
  generalize diceV t k (most + 1) = N at hv HE ⊢
  generalize diceK t k = k1 at HD HE
  go_wp2_with fail
  go_loopw [5, 6] (fun v i wr => ∃ j : Nat, (j : Int) ≤ N ∧ i = .int .i64 (N - (j : Int)) ∧ Hid (BOwn wr w.heap.size v (diceBs t j k1).1 ∧ DiceAt wr L D t (diceBs t j k1).2 ∧ But D w wr)) (fun _ i _ => (intOf i).toNat)
  case atStart => exact ⟨0, by omega, by go_num, Lib.hid ⟨World.ownsRow_nil _ _ _ _, HD.out, HB.out⟩⟩
  case round =>
    obtain ⟨j, hj, rfl, HQ⟩ := hrel
    have hlen := Lib.hid (diceBs_len t j k1)
    by_cases hlt : (j : Int) < N
    · have hbd := byteAt_bd t (diceBs t j k1).2
      have hsz : w.heap.size ≤ wr.heap.size := HQ.out.2.2.size
      go_wp2_with fail
      refine (of_any L D t (diceBs t j k1).2 _ 7 7 byteTab _ (HQ.out.2.1.later ((Below.refl _ _).alloc (Nat.le_refl _) _)) (Row.of_block (cs := (intsV byteTab).toArray) (heap_alloc_new _ _) rfl) (fun ad e => by injection e with e; subst e; show wr.heap.size ≠ D; omega) (by omega) (by omega)).mono ?_
      rintro e w2 ⟨rfl, hd, hb⟩
      rw [show byteTab.getD (diceV t (diceBs t j k1).2 ((7 : Nat) : Int)).toNat 0 = byteAt t (diceBs t j k1).2 from rfl]
      have ho : BOwn w2 w.heap.size _ (diceBs t j k1).1 := own_but (World.ownsRow.alloc HQ.out.1 _) hb hD
      have hb2 := HQ.out.2.2.trans ((But.of ((Below.refl _ _).alloc (Nat.le_refl _) _)).trans hb)
      have HX : Hid (w8 (UInt8.ofNat (byteAt t (diceBs t j k1).2).toNat) = byteAt t (diceBs t j k1).2) := by
        unfold Hid w8; rw [UInt8.toNat_ofNat']; omega
      have HN : Hid (diceBs t (j + 1) k1 = ((diceBs t j k1).1 ++ [UInt8.ofNat (byteAt t (diceBs t j k1).2).toNat], diceK t (diceBs t j k1).2)) := Lib.hid rfl
      generalize byteAt t (diceBs t j k1).2 = x at hbd HX HN ⊢
      have HO := Lib.hid ho; have HD2 := Lib.hid hd; have HB2 := Lib.hid hb2; clear ho hd hb hb2
      go_wp2_with (at_builtin; go_must (refine wpList_app_new w2 rfl (.tmp 15) (.tmp 20) 22 5 rfl w.heap.size Try.underlying22 u8_info rfl _ _ _ HO.out rfl 1 #[.int .u8 x] rfl (by simp [Value.oneCell']) rfl rfl (by rw [hlen.out]; unfold maxLen; omega) (by rw [hlen.out]; omega) HB2.out.size ?_); intro v3 w3 ho3 hb3; have HO3 := Lib.hid ho3; have HB3 := Lib.hid hb3; clear ho3 hb3)
      refine ⟨⟨j + 1, by omega, by go_num, Lib.hid ⟨?_, ?_, ?_⟩⟩, by simp [intOf]; omega⟩
      · rw [HN.out]
        unfold BOwn
        rw [bytesV_app, List.length_append]
        have h := HO3.out
        rw [← HX.out] at h
        exact h
      · rw [HN.out]; exact HD2.out.below HB3.out hD
      · exact HB2.out.grow HB3.out
    · have hj2 : (j : Int) = N := by omega
      have hn : N.toNat = j := by omega
      have HJ := Lib.hid hn; clear hj2 hn
      go_wp2
      go_ret
      rw [HE.out, HJ.out]
      exact ⟨_, rfl, HQ.out.1, HQ.out.2.1, HQ.out.2.2⟩
set_option maxRecDepth 20000 in
set_option maxHeartbeats 1000000 in
theorem some_any (L D : Nat) (t : List Int) (k : Nat) (n : Nat) (w : World) (h : DiceAt w L D t k) (hn : n ≤ 100000) :
    Calls Try.prog 24 #[.pointer (some ⟨D, 0, none⟩), .int .i64 n] w fun e w' => ∃ v, e = .returned v ∧ IOwn w' w.heap.size v (diceSs t n k).1 ∧ DiceAt w' L D t (diceSs t n k).2 ∧ But D w w' := by
  have H := Lib.hid h; have hD := h.lt; clear h
  go_enter Try.func24, Try.ntmps24
  go_wp2_with fail
  go_loopw [5, 6] (fun v i wr => ∃ j : Nat, j ≤ n ∧ i = .int .i64 j ∧ Hid (IOwn wr w.heap.size v (diceSs t j k).1 ∧ DiceAt wr L D t (diceSs t j k).2 ∧ But D w wr)) (fun _ i _ => n - (intOf i).toNat)
  case atStart => exact ⟨0, by omega, rfl, Lib.hid ⟨World.ownsRow_nil _ _ _ _, H.out, But.refl _ _⟩⟩
  case round =>
    obtain ⟨j, hj, rfl, HQ⟩ := hrel
    have hlen := Lib.hid (diceSs_len t j k)
    by_cases hlt : j < n
    · have hbd := diceV_bd t (diceSs t j k).2 3 (by omega)
      go_wp2_with fail
      refine (next_any L D t (diceSs t j k).2 3 wr HQ.out.2.1 (by omega) (by omega)).mono ?_
      rintro e w2 ⟨rfl, hd, hb⟩
      have ho : IOwn w2 w.heap.size _ (diceSs t j k).1 := own_but HQ.out.1 hb hD
      have hb2 := HQ.out.2.2.trans hb
      have HN : Hid (diceSs t (j + 1) k = (if diceV t (diceSs t j k).2 3 = 0 then (diceSs t j k).1 ++ [(j : Int)] else (diceSs t j k).1, diceK t (diceSs t j k).2)) := Lib.hid rfl
      generalize diceV t (diceSs t j k).2 3 = x at hbd HN ⊢
      have HO := Lib.hid ho; have HD2 := Lib.hid hd; have HB2 := Lib.hid hb2; clear ho hd hb hb2
      by_cases hx : x = 0
      · have g : decide (x = 0) = true := decide_eq_true hx
        have g1 : (x == 0) = true := by simpa using hx
        have HX := Lib.hid hx; clear hx
        go_wp2_with (at_builtin; go_must (refine wpList_app_new w2 rfl (.tmp 15) (.tmp 17) 23 3 rfl w.heap.size Try.underlying23 i64_info rfl _ _ _ HO.out rfl 1 #[.int .i64 j] rfl (by simp [Value.oneCell']) rfl rfl (by have := hlen.out; unfold maxLen; omega) (by have := hlen.out; omega) HB2.out.size ?_); intro v3 w3 ho3 hb3; have HO3 := Lib.hid ho3; have HB3 := Lib.hid hb3; clear ho3 hb3)
        refine ⟨⟨j + 1, by omega, by go_num, Lib.hid ⟨?_, ?_, ?_⟩⟩, by simp [intOf]; omega⟩
        · rw [HN.out, if_pos HX.out]
          unfold IOwn
          rw [intsV_app, List.length_append]
          exact HO3.out
        · rw [HN.out]; exact HD2.out.below HB3.out hD
        · exact HB2.out.grow HB3.out
      · have g : decide (x = 0) = false := decide_eq_false hx
        have g1 : (x == 0) = false := by simpa using hx
        have HX := Lib.hid hx; clear hx
        go_wp2
        refine ⟨⟨j + 1, by omega, by go_num, Lib.hid ⟨?_, ?_, HB2.out⟩⟩, by simp [intOf]; omega⟩
        · rw [HN.out, if_neg HX.out]; exact HO.out
        · rw [HN.out]; exact HD2.out
    · have HJ : Hid (j = n) := by unfold Hid; omega
      go_wp2
      go_ret
      rw [← HJ.out]
      exact ⟨_, rfl, HQ.out.1, HQ.out.2.1, HQ.out.2.2⟩
end Go.Proofs.Ytmccnfdadipgiaa
