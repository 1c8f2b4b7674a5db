import Derived.Test.YtdildmfjekdlgaaPackAJ
/- The walk of trustflowmade's dice: Some. -/
namespace Go.Proofs.Ytdildmfjekdlgaa
open Go.RowKit
set_option maxRecDepth 20000 in
set_option maxHeartbeats 1000000 in
theorem some_any (L D : Nat) (t : List Int) (k : Nat) (n : Nat) (w : World) (h : DiceAt w L D t k) (hn : n ≤ 100000) :
    Calls Try.prog 15 #[.pointer (some ⟨D, 0, none⟩), .int .i64 n] w fun e w' => ∃ v, e = .returned v ∧ IOwn w' w.heap.size v (diceSs t n k).1 ∧ DiceAt w' L D t (diceSs t n k).2 ∧ But D w w' := by
  have H := Lib.hid h; have hD := h.lt; clear h
  go_enter Try.func15, Try.ntmps15
  go_wp2_with fail
  go_loopw [5, 6] (fun v i wr => ∃ j : Nat, j ≤ n ∧ i = .int .i64 j ∧ Hid (IOwn wr w.heap.size v (diceSs t j k).1 ∧ DiceAt wr L D t (diceSs t j k).2 ∧ But D w wr)) (fun _ i _ => n - (intOf i).toNat)
  case atStart => exact ⟨0, by omega, rfl, Lib.hid ⟨World.ownsRow_nil _ _ _ _, H.out, But.refl _ _⟩⟩
  case round =>
    obtain ⟨j, hj, rfl, HQ⟩ := hrel
    have hlen := Lib.hid (diceSs_len t j k)
    by_cases hlt : j < n
    · have hbd := diceV_bd t (diceSs t j k).2 3 (by omega)
      go_wp2_with fail
      refine (next_any L D t (diceSs t j k).2 3 wr HQ.out.2.1 (by omega) (by omega)).mono ?_
      rintro e w2 ⟨rfl, hd, hb⟩
      have ho : IOwn w2 w.heap.size _ (diceSs t j k).1 := own_but HQ.out.1 hb hD
      have hb2 := HQ.out.2.2.trans hb
      have HN : Hid (diceSs t (j + 1) k = (if diceV t (diceSs t j k).2 3 = 0 then (diceSs t j k).1 ++ [(j : Int)] else (diceSs t j k).1, diceK t (diceSs t j k).2)) := Lib.hid rfl
      generalize diceV t (diceSs t j k).2 3 = x at hbd HN ⊢
      have HO := Lib.hid ho; have HD2 := Lib.hid hd; have HB2 := Lib.hid hb2; clear ho hd hb hb2
      by_cases hx : x = 0
      · have g : decide (x = 0) = true := decide_eq_true hx
        have g1 : (x == 0) = true := by simpa using hx
        have HX := Lib.hid hx; clear hx
        go_wp2_with (at_builtin; go_must (refine wpList_app_new w2 rfl (.tmp 15) (.tmp 17) 22 3 rfl w.heap.size Try.underlying22 i64_info rfl _ _ _ HO.out rfl 1 #[.int .i64 j] rfl (by simp [Value.oneCell']) rfl rfl (by have := hlen.out; unfold maxLen; omega) (by have := hlen.out; omega) HB2.out.size ?_); intro v3 w3 ho3 hb3; have HO3 := Lib.hid ho3; have HB3 := Lib.hid hb3; clear ho3 hb3)
        refine ⟨⟨j + 1, by omega, by go_num, Lib.hid ⟨?_, ?_, ?_⟩⟩, by simp [intOf]; omega⟩
        · rw [HN.out, if_pos HX.out]
          unfold IOwn
          rw [intsV_app, List.length_append]
          exact HO3.out
        · rw [HN.out]; exact HD2.out.below HB3.out hD
        · exact HB2.out.grow HB3.out
      · have g : decide (x = 0) = false := decide_eq_false hx
        have g1 : (x == 0) = false := by simpa using hx
        have HX := Lib.hid hx; clear hx
        go_wp2
        refine ⟨⟨j + 1, by omega, by go_num, Lib.hid ⟨?_, ?_, HB2.out⟩⟩, by simp [intOf]; omega⟩
        · rw [HN.out, if_neg HX.out]; exact HO.out
        · rw [HN.out]; exact HD2.out
    · have HJ : Hid (j = n) := by unfold Hid; omega
      go_wp2
      go_ret
      rw [← HJ.out]
      exact ⟨_, rfl, HQ.out.1, HQ.out.2.1, HQ.out.2.2⟩
end Go.Proofs.Ytdildmfjekdlgaa
