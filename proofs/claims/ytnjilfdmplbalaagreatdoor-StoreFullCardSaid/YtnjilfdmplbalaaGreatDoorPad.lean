/- The walks of digest.appendWide and digest.padded. -/
import Derived.Test.YtnjilfdmplbalaaGreatDoorMem
import Derived.Test.YtnjilfdmplbalaaGreatDoorInfo
import Derived.Lib.Hide
import Derived.Outline
namespace Go.Proofs.YtnjilfdmplbalaaGreatDoor
open Go.RowKit
set_option maxHeartbeats 400000 in
theorem appendWide_any (B : Nat) (v : Value) (l : List UInt8) (x : Nat) (w : World) (hown : Owns w B 5 v l) (hB : B ≤ w.heap.size) (hl : l.length ≤ 900000000) :
    Calls Tryz.prog 150 #[v, .int .u64 x] w fun e w' => ∃ v', e = .returned v' ∧ Owns w' B 5 v' (l ++ wide x) ∧ Below B w w' := by
  have HOWN := Lib.hid hown; clear hown
  go_enter Tryz.func150, Tryz.ntmps150
  go_wp2
  go_loopw [0, 5] (fun v i wr => ∃ k : Nat, k ≤ 8 ∧ i = .int .i64 (56 - 8 * (k : Int)) ∧ Hid (Owns wr B 5 v (l ++ wideTo x k) ∧ Below B w wr)) (fun _ i _ => (intOf i + 8).toNat)
  case atStart => exact ⟨0, by omega, by go_num, by simpa [wideTo] using HOWN.out, Below.refl _ _⟩
  case round =>
    obtain ⟨k, hk, rfl, HI⟩ := hrel
    have hlen : (l ++ wideTo x k).length + 1 ≤ 1000000000 := by rw [List.length_append, wideTo_len]; omega
    have HLEN := Lib.hid hlen; clear hlen
    by_cases hlt : k < 8
    · have hsh := wideAt_eq x k
      have h0 : (0 : Int) ≤ 56 - 8 * (k : Int) := by omega
      have hBr : B ≤ wr.heap.size := by have := HI.out.2.size; omega
      go_wp2_with (at_builtin; go_must (refine wpList_push wr rfl (.tmp 10) (.tmp 15) 85 5 rfl B Tryz.underlying85 u8_info _ (l ++ wideTo x k) HI.out.1 rfl 1 [wideAt x k] rfl _ rfl rfl HLEN.out hBr ?_); intro v' w' hown' hb')
      exact ⟨⟨k + 1, by omega, by go_num, by rw [wideTo_succ, ← List.append_assoc]; exact ⟨hown', HI.out.2.trans hb'⟩⟩, by simp [intOf]; omega⟩
    · go_wp2
      go_ret
      have hk8 : k = 8 := by omega
      subst hk8
      exact ⟨_, rfl, HI.out⟩
/-- The end of a message: what is left of it, a 1, zeros, and its length in bits. -/
def zerosFor (n : Nat) : Nat := if 64 < n + 9 then 119 - n else 55 - n
def padTail (r : List UInt8) (size : Nat) : List UInt8 := r ++ [128] ++ List.replicate (zerosFor r.length) 0 ++ wide (8 * size)
theorem padTail_len (r : List UInt8) (size : Nat) (h : r.length < 64) : (padTail r size).length = if 64 < r.length + 9 then 128 else 64 := by
  simp only [padTail, List.length_append, List.length_replicate, List.length_cons, List.length_nil, wide, wideTo_len, zerosFor]; split <;> omega
set_option maxRecDepth 20000 in
set_option maxHeartbeats 1000000 in
theorem padded_at (whole : Nat) (A : Option Addr) (n c : Nat) (r : List UInt8) (size : Nat) (w : World) (hr : SliceAt w A n c r) (hn : n < 64) (hs : size ≤ 1000000000)
    (hw : 64 < n + 9 ∧ whole = 128 ∨ ¬ 64 < n + 9 ∧ whole = 64) :
    Calls Tryz.prog 141 #[.slice A n c, .int .i64 size] w fun e w' => ∃ v', e = .returned v' ∧ Owns w' w.heap.size 5 v' (padTail r size) ∧ Below w.heap.size w w' := by
  have HR := Lib.hid hr; have HN := Lib.hid hr.len; clear hr
  rcases hw with ⟨hbig, rfl⟩ | ⟨hbig, rfl⟩
  all_goals
    go_enter Tryz.func141, Tryz.ntmps141
    go_wp2_with (first
      | (at_make; refine wpList_room' _ rfl (.const (.int .i64 0)) (.tmp 12) 85 5 rfl w.heap.size Tryz.underlying85 u8_info 128 rfl rfl rfl (by omega) (Nat.le_refl _) ?_; intro v1 w1 ho1 hb1; have HO1 := Lib.hid ho1; clear ho1)
      | (at_make; refine wpList_room' _ rfl (.const (.int .i64 0)) (.tmp 12) 85 5 rfl w.heap.size Tryz.underlying85 u8_info 64 rfl rfl rfl (by omega) (Nat.le_refl _) ?_; intro v1 w1 ho1 hb1; have HO1 := Lib.hid ho1; clear ho1)
      | (at_builtin; refine wpList_spread _ rfl (.tmp 14) (.tmp 15) 85 5 rfl w.heap.size Tryz.underlying85 u8_info v1 [] HO1.out rfl A n c r (HR.out.below hb1) rfl (by simp; omega) hb1.size ?_; intro v2 w2 ho2 hb2; have HO2 := Lib.hid ho2; clear ho2)
      | (at_builtin; refine wpList_push w2 rfl (.tmp 17) (.tmp 18) 85 5 rfl w.heap.size Tryz.underlying85 u8_info v2 ([] ++ r) HO2.out rfl 1 [128] rfl _ rfl rfl (by rw [List.nil_append, HN.out]; omega) (by have := hb1.size; have := hb2.size; omega) ?_; intro v3 w3 ho3 hb3; have HO3 := Lib.hid ho3; clear ho3))
    go_loopw [6] (fun v wr => ∃ k : Nat, k ≤ zerosFor n ∧ Hid (Owns wr w.heap.size 5 v (r ++ [128] ++ List.replicate k 0) ∧ Below w.heap.size w wr)) (fun v _ => match v with | .slice _ l _ => 128 - l | _ => 0)
    case atStart => exact ⟨0, Nat.zero_le _, by simpa using HO3.out, (hb1.trans hb2).trans hb3⟩
    case round =>
      obtain ⟨k, hk, HI⟩ := hrel
      have HK := Lib.hid hk
      have hlen : (r ++ [128] ++ List.replicate k (0 : UInt8)).length = n + 1 + k := by simp [HN.out]; omega
      obtain ⟨g, cap, hv, hg1, hg2, hg3, hg4, -⟩ := HI.out.1.form (by omega)
      rw [hlen] at hv hg3
      subst hv
      clear hg4 hk
      have HL := Lib.hid hlen; clear hlen
      have HZ : Hid (zerosFor n = if 64 < n + 9 then 119 - n else 55 - n) := Lib.hid rfl
      by_cases hz : k < zerosFor n
      · have hlow : n + 1 + k < 120 ∧ 64 < n + 9 ∨ n + 1 + k < 56 ∧ ¬ 64 < n + 9 := by rw [HZ.out] at hz; split at hz <;> omega
        have HW := Lib.hid hlow; clear hlow
        first
          | have hlt : n + 1 + k < 56 := by have := HW.out; omega
          | have hlt : n + 1 + k < 120 := by have := HW.out; omega
        have HZK := Lib.hid hz; clear hz
        have hsz : (r ++ [128] ++ List.replicate k (0 : UInt8)).length + 1 ≤ 1000000000 := by rw [HL.out]; omega
        have HS := Lib.hid hsz; clear hsz
        go_wp2_with (at_builtin; refine wpList_push wr rfl (.tmp 25) (.tmp 26) 85 5 rfl w.heap.size Tryz.underlying85 u8_info _ _ HI.out.1 rfl 1 [0] rfl _ rfl rfl HS.out HI.out.2.size ?_; intro v' w' hown' hb')
        refine ⟨⟨k + 1, HZK.out, ?_, HI.out.2.trans hb'⟩, ?_⟩
        · rw [List.replicate_succ', ← List.append_assoc]; exact hown'
        · have hl2 : (r ++ [128] ++ List.replicate k (0 : UInt8) ++ [0]).length = n + 1 + k + 1 := by rw [List.length_append, HL.out]; rfl
          obtain ⟨g', cap', hv', _⟩ := hown'.form (by omega)
          subst hv'
          simp only [hl2]
          omega
      · have HE : Hid (k = zerosFor n) := by have := HK.out; unfold Hid; omega
        have hlow : 120 ≤ n + 1 + k ∧ 64 < n + 9 ∨ 56 ≤ n + 1 + k ∧ ¬ 64 < n + 9 := by have h1 := HE.out; rw [HZ.out] at h1; split at h1 <;> omega
        have HW := Lib.hid hlow; clear hlow
        first
          | have hge : (120 : Int) ≤ (n : Int) + 1 + k := by have := HW.out; omega
          | have hge : (56 : Int) ≤ (n : Int) + 1 + k := by have := HW.out; omega
        go_wp2_with fail
        rw [show ((size : Int) * 8) = ((8 * size : Nat) : Int) from by omega]
        refine (appendWide_any w.heap.size _ _ (8 * size) wr HI.out.1 HI.out.2.size (by rw [HL.out]; have := HE.out; rw [HZ.out] at this; split at this <;> omega)).mono ?_
        rintro e w4 ⟨v4, rfl, ho4, hb4⟩
        have HO4 := Lib.hid ho4; clear ho4
        go_wp2
        go_ret
        exact ⟨_, rfl, by unfold padTail; rw [HN.out, ← HE.out]; exact HO4.out, HI.out.2.trans hb4⟩
theorem padded_any (A : Option Addr) (n c : Nat) (r : List UInt8) (size : Nat) (w : World) (hr : SliceAt w A n c r) (hn : n < 64) (hs : size ≤ 1000000000) :
    Calls Tryz.prog 141 #[.slice A n c, .int .i64 size] w fun e w' => ∃ v', e = .returned v' ∧ Owns w' w.heap.size 5 v' (padTail r size) ∧ Below w.heap.size w w' := by
  by_cases h : 64 < n + 9
  · exact padded_at 128 A n c r size w hr hn hs (.inl ⟨h, rfl⟩)
  · exact padded_at 64 A n c r size w hr hn hs (.inr ⟨h, rfl⟩)
end Go.Proofs.YtnjilfdmplbalaaGreatDoor
