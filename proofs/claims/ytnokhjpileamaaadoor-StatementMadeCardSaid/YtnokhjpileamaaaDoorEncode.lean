/- The walk of statement.Encode. -/
import Derived.Test.YtnokhjpileamaaaDoorSeal
import Derived.Test.YtnokhjpileamaaaDoorGrowAlt
namespace Go.Proofs.YtnokhjpileamaaaDoor
open Go.RowKit
/-- What Encode answers. -/
def encE (s : Stm) : Int := if checkV s = 0 then (if sealedB s = true then 0 else 6) else checkV s
def wholeB (s : Stm) : List UInt8 := bodyB s ++ (listB [s.key] ++ textB s.dig.data.toList)
def encB (s : Stm) : List UInt8 := if checkV s = 0 then (if sealedB s = true then wholeB s else []) else []
def EncS (w : World) (s : Stm) (e : Ending) (w' : World) : Prop := ∃ A m c, e = .returned (.tuple #[.slice A m c, .int .i64 (encE s)]) ∧ BRow w' A m c (encB s) ∧ Below w.heap.size w w'
set_option maxRecDepth 100000 in
set_option maxHeartbeats 2000000 in
theorem encode_any (s : Stm) (A : Option Addr) (n c : Nat) (B : Option Addr) (m k : Nat) (w : World) (hl : IRow w A n c s.list) (hp : PRow w B m k s.pins) (hs : Small s) (hr : Rounds w) :
    Calls Tryd.prog 23 #[stmV s A n c B m k] w (EncS w s) := by
  have hn : n ≤ 1000 := by rw [← hl.len]; exact hs.list
  have hm : m ≤ 1000 := by rw [← hp.len]; exact hs.pins
  have H1 : Hid (∀ w', Below w.heap.size w w' → Calls Tryd.prog 26 #[stmV s A n c B m k] w' (SaysL (.int .i64 (checkV s)) w')) := Lib.hid fun w' h => check_any s A n c B m k w' (hl.later h) (hp.later h) (by omega) (by omega) (by have := hs.body; omega)
  have H2 : Hid (∀ w', Below w.heap.size w w' → Calls Tryd.prog 21 #[stmV s A n c B m k] w' (SaysL (.bool (sealedB s)) w')) := Lib.hid fun w' h => sealed_any s A n c B m k w' (hl.later h) (hp.later h) hs (hr.later h)
  have H3 : Hid (∀ w', Below w.heap.size w w' → Calls Tryd.prog 29 #[stmV s A n c B m k] w' (GivesO w' (bodyB s))) := Lib.hid fun w' h => bytes_own s A n c B m k w' (hl.later h) (hp.later h) hs
  have HE : Hid (encE s = if checkV s = 0 then (if sealedB s = true then 0 else 6) else checkV s) := Lib.hid rfl
  have HB : Hid (encB s = if checkV s = 0 then (if sealedB s = true then bodyB s ++ (listB [s.key] ++ textB s.dig.data.toList) else []) else []) := Lib.hid rfl
  have hdig := hs.dig; have hlen := body_len hs
  clear hl hp hs hr
  unfold EncS
  generalize encE s = E at HE ⊢
  generalize encB s = EB at HB ⊢
  generalize checkV s = cv at HE HB H1
  generalize sealedB s = sv at HE HB H2
  generalize bodyB s = R at HB H3 hlen
  obtain ⟨author, number, prev, time, kind, a, b, cc, list, pins, body, key, dig⟩ := s
  unfold stmV at *
  simp only at hdig HB
  obtain ⟨G, hG⟩ : ∃ G, G = w.heap.size + 1 := ⟨_, rfl⟩
  have HGG := Lib.hid hG; clear hG
  go_enter Tryd.func23, Tryd.ntmps23
  go_wp2_with fail
  refine (H1.out _ (one_new _ _)).mono ?_
  rintro e w1 ⟨rfl, hb⟩
  have HB1 := Lib.hid ((one_new w _).trans (hb.mono (by simp))); have HX1 := Lib.hid ((hb.block w.heap.size (by simp)).trans (heap_alloc_new w (.cells #[.int .i64 author, .int .i64 number, .string prev, .int .i64 time, .int .i64 kind, .int .i64 a, .int .i64 b, .int .i64 cc, .slice A n c, .slice B m k, .string body, .int .i64 key, .string dig] 27))); have HZ1 : Hid (G ≤ w1.heap.size) := Lib.hid (by have := hb.size; rw [HGG.out]; simpa using this)
  clear hb
  by_cases h0 : cv = 0
  · subst h0
    obtain ⟨hc0, hc1, hc2, hc3, hc4, hc5, hc6, hc7, hc8, hc9, hc10, hc11, hc12⟩ := stm_cells (s := ⟨author, number, prev, time, kind, a, b, cc, list, pins, body, key, dig⟩) HX1.out
    go_wp2_with fail
    refine (H2.out _ HB1.out).mono ?_
    rintro e w2 ⟨rfl, hb⟩
    have HB2 := Lib.hid (HB1.out.trans (hb.mono HB1.out.size)); have HX2 := Lib.hid ((hb.block w.heap.size (by have := HZ1.out; rw [HGG.out] at this; omega)).trans HX1.out); have HZ2 : Hid (G ≤ w2.heap.size) := Lib.hid (Nat.le_trans HZ1.out hb.size)
    clear hb hc0 hc1 hc2 hc3 hc4 hc5 hc6 hc7 hc8 hc9 hc10 hc11 hc12 HB1 HX1 HZ1
    cases g2 : sv
    · go_wp2
      go_ret2
      exact ⟨none, 0, 0, by rw [HE.out, g2]; rfl, by rw [HB.out, g2]; exact Row.nilRow _ _, HB2.out⟩
    have HE2 : Hid (E = 0) := by unfold Hid; rw [HE.out, g2]; rfl
    have HEB : Hid (EB = R ++ (listB [key] ++ textB dig.data.toList)) := by unfold Hid; rw [HB.out, g2]; rfl
    clear HE HB
    go_wp2_with fail
    refine wp_region_alt (by kernel_rfl) (Below G) (Below.refl G) (fun _ _ _ => Below.trans) [0, 2, 3, 4, 7, 8, 9] 1 5 [12, 13] [([], 5), ([], 6), ([], 10), ([], 11)] [12, 13] [([], 1), ([], 6), ([], 10), ([], 11)] (by kernel_rfl) (by kernel_rfl) (by kernel_rfl) (by kernel_rfl) (by kernel_rfl) (by decide) (by decide) (by kernel_rfl) (by kernel_rfl) ?_
    simp only [List.map_cons, List.map_nil, pick, List.getD_cons_zero, List.getD_cons_succ]
    have HB3 := Lib.hid HB2.out.drew; have HX3 : Hid (w2.drew.heap[w.heap.size]? = _) := HX2; have HZ3 : Hid (G ≤ w2.drew.heap.size) := HZ2
    clear HB2 HX2 HZ2
    generalize w2.drew = w3 at HB3 HX3 HZ3 ⊢
    obtain ⟨hf0, hf1, hf2, hf3, hf4, hf5, hf6, hf7, hf8, hf9, hf10, hf11, hf12⟩ := stm_futs (F := Below G) (Below.refl G) (s := ⟨author, number, prev, time, kind, a, b, cc, list, pins, body, key, dig⟩) (W := w3) (fun w' h => h.block _ (by rw [HGG.out]; omega)) HX3.out
    repeat (go_big_quiet_step (fail))
    refine wpQuiet_nil ?_
    clear hf0 hf1 hf2 hf3 hf4 hf5 hf6 hf7 hf8 hf9 hf10 hf11 hf12
    constructor
    · go_wp2_with fail
      refine (H3.out w3 HB3.out).mono ?_
      rintro e w4 ⟨x1, rfl, ho, hb⟩
      have HO4 := Lib.hid (ho.from HZ3.out); have HB4 := Lib.hid (HB3.out.trans (hb.mono HB3.out.size)); have HZ4 : Hid (G ≤ w4.heap.size) := Lib.hid (Nat.le_trans HZ3.out hb.size); have HF := Lib.hid (hb.mono HZ3.out)
      clear ho hb HB3 HX3 HZ3
      go_wp2_with fail
      refine pieceEnd_normal ⟨HF.out, ?_⟩
      clear HF
      refine wpGrow_cons ?_
      refine wpQuiet_nil ?_
      go_wp2_with fail
      have hk : Below w4.heap.size w4 (w4.alloc (.cells #[.int .i64 key] 3)) := one_new _ _
      refine pieceEnd_normal ⟨hk.mono HZ4.out, ?_⟩
      have HK5 := Lib.hid (nums_row (w := w4) [key] #[.int .i64 key] 3 (0, 0) rfl 1 rfl)
      have HO5 := Lib.hid (HO4.out.later hk); have HB5 := Lib.hid (HB4.out.trans (hk.mono HB4.out.size)); have HZ5 : Hid (G ≤ (w4.alloc (.cells #[.int .i64 key] 3)).heap.size) := Lib.hid (Nat.le_trans HZ4.out hk.size)
      clear hk HO4 HB4 HZ4
      generalize w4.alloc (.cells #[.int .i64 key] 3) = w5 at HK5 HO5 HB5 HZ5 ⊢
      refine wpGrow_cons ?_
      refine wpQuiet_nil ?_
      go_wp2_with fail
      refine (numbers_any _ 1 1 [key] w5 HK5.out (by omega)).mono ?_
      rintro e w6 ⟨x6, rfl, ho, hb⟩
      have HO6 := Lib.hid (HO5.out.later hb); have HB6 := Lib.hid (HB5.out.trans (hb.mono HB5.out.size)); have HZ6 : Hid (G ≤ w6.heap.size) := Lib.hid (Nat.le_trans HZ5.out hb.size); have HF := Lib.hid (hb.mono HZ5.out)
      obtain ⟨A6, c6, hv, hr⟩ := ho.row
      have HR6 := Lib.hid hr; subst hv; clear hr ho hb HO5 HB5 HZ5 HK5
      have HL6 : Hid ((listB [key]).length = 8) := by unfold Hid; rw [listB_len]; rfl
      rw [HL6.out] at HR6 ⊢
      go_wp2_with fail
      refine pieceEnd_normal ⟨HF.out, ?_⟩
      clear HF
      refine wpGrow_cons ?_
      refine wpQuiet_nil ?_
      go_wp2_with fail
      refine (wireText_own A6 8 c6 _ dig w6 HR6.out (by omega) (by omega)).mono ?_
      rintro e w7 ⟨x7, rfl, ho, hb⟩
      have HO7 := Lib.hid (HO6.out.later hb); have HB7 := Lib.hid (HB6.out.trans (hb.mono HB6.out.size)); have HZ7 : Hid (G ≤ w7.heap.size) := Lib.hid (Nat.le_trans HZ6.out hb.size); have HF := Lib.hid (hb.mono HZ6.out)
      obtain ⟨A7, c7, hv, hr⟩ := ho.row
      have HR7 := Lib.hid hr; subst hv; clear hr ho hb HO6 HB6 HZ6 HR6
      have HL7 : Hid ((listB [key] ++ textB dig.data.toList).length = 8 + (8 + dig.size)) := by unfold Hid; rw [List.length_append, HL6.out, textS_len]
      rw [HL7.out] at HR7 ⊢
      go_wp2_with fail
      refine pieceEnd_normal ⟨HF.out, ?_⟩
      clear HF
      refine wpGrow_cons ?_
      refine wpQuiet_nil ?_
      go_wp2_with (at_builtin; go_must (refine wpList_app w7 rfl (.tmp 14) (.tmp 23) 28 28 5 rfl G Tryd.underlying28 u8_info rfl _ _ _ HO7.out rfl _ (8 + (8 + dig.size)) (bytesV (listB [key] ++ textB dig.data.toList)) (Row.src HR7.out Tryd.underlying28 (bytesV_one _)) rfl (by unfold maxLen; omega) (by omega) HZ7.out ?_); intro x8 w8 ho8 hb8; have HF : Hid (Below G w7 w8) := Lib.hid hb8; have HO8 : Hid (BOwn w8 G x8 EB) := Lib.hid (own_bytes HL7.out HEB.out ho8); clear ho8 hb8)
      go_wp2_with fail
      refine pieceEnd_normal ⟨HF.out, ?_⟩
      obtain ⟨A8, c8, hv8, hr8⟩ := HO8.out.row
      have HR8 := Lib.hid hr8
      subst hv8
      clear hr8 HO8
      refine wpGrow_nil ?_
      repeat (go_big_quiet_step (fail))
      refine wpQuiet_nil ?_
      go_wp2
      go_ret2
      exact ⟨A8, _, c8, by rw [HE2.out]; rfl, HR8.out, HB7.out.trans (HF.out.mono (by rw [HGG.out]; omega))⟩
    · go_wp2_with fail
      have hk : Below w3.heap.size w3 (w3.alloc (.cells #[.int .i64 key] 3)) := one_new _ _
      refine pieceEnd_normal ⟨hk.mono HZ3.out, ?_⟩
      have HK4 := Lib.hid (nums_row (w := w3) [key] #[.int .i64 key] 3 (0, 0) rfl 1 rfl)
      have HB4 := Lib.hid (HB3.out.trans (hk.mono HB3.out.size)); have HZ4 : Hid (G ≤ (w3.alloc (.cells #[.int .i64 key] 3)).heap.size) := Lib.hid (Nat.le_trans HZ3.out hk.size)
      clear hk HB3 HX3 HZ3
      generalize w3.alloc (.cells #[.int .i64 key] 3) = w4 at HK4 HB4 HZ4 ⊢
      refine wpGrow_cons ?_
      refine wpQuiet_nil ?_
      go_wp2_with fail
      refine (H3.out w4 HB4.out).mono ?_
      rintro e w5 ⟨x1, rfl, ho, hb⟩
      have HO5 := Lib.hid (ho.from HZ4.out); have HB5 := Lib.hid (HB4.out.trans (hb.mono HB4.out.size)); have HZ5 : Hid (G ≤ w5.heap.size) := Lib.hid (Nat.le_trans HZ4.out hb.size); have HF := Lib.hid (hb.mono HZ4.out); have HK5 := Lib.hid (HK4.out.later hb)
      clear ho hb HB4 HZ4 HK4
      go_wp2_with fail
      refine pieceEnd_normal ⟨HF.out, ?_⟩
      clear HF
      refine wpGrow_cons ?_
      refine wpQuiet_nil ?_
      go_wp2_with fail
      refine (numbers_any _ 1 1 [key] w5 HK5.out (by omega)).mono ?_
      rintro e w6 ⟨x6, rfl, ho, hb⟩
      have HO6 := Lib.hid (HO5.out.later hb); have HB6 := Lib.hid (HB5.out.trans (hb.mono HB5.out.size)); have HZ6 : Hid (G ≤ w6.heap.size) := Lib.hid (Nat.le_trans HZ5.out hb.size); have HF := Lib.hid (hb.mono HZ5.out)
      obtain ⟨A6, c6, hv, hr⟩ := ho.row
      have HR6 := Lib.hid hr; subst hv; clear hr ho hb HO5 HB5 HZ5 HK5
      have HL6 : Hid ((listB [key]).length = 8) := by unfold Hid; rw [listB_len]; rfl
      rw [HL6.out] at HR6 ⊢
      go_wp2_with fail
      refine pieceEnd_normal ⟨HF.out, ?_⟩
      clear HF
      refine wpGrow_cons ?_
      refine wpQuiet_nil ?_
      go_wp2_with fail
      refine (wireText_own A6 8 c6 _ dig w6 HR6.out (by omega) (by omega)).mono ?_
      rintro e w7 ⟨x7, rfl, ho, hb⟩
      have HO7 := Lib.hid (HO6.out.later hb); have HB7 := Lib.hid (HB6.out.trans (hb.mono HB6.out.size)); have HZ7 : Hid (G ≤ w7.heap.size) := Lib.hid (Nat.le_trans HZ6.out hb.size); have HF := Lib.hid (hb.mono HZ6.out)
      obtain ⟨A7, c7, hv, hr⟩ := ho.row
      have HR7 := Lib.hid hr; subst hv; clear hr ho hb HO6 HB6 HZ6 HR6
      have HL7 : Hid ((listB [key] ++ textB dig.data.toList).length = 8 + (8 + dig.size)) := by unfold Hid; rw [List.length_append, HL6.out, textS_len]
      rw [HL7.out] at HR7 ⊢
      go_wp2_with fail
      refine pieceEnd_normal ⟨HF.out, ?_⟩
      clear HF
      refine wpGrow_cons ?_
      refine wpQuiet_nil ?_
      go_wp2_with (at_builtin; go_must (refine wpList_app w7 rfl (.tmp 14) (.tmp 23) 28 28 5 rfl G Tryd.underlying28 u8_info rfl _ _ _ HO7.out rfl _ (8 + (8 + dig.size)) (bytesV (listB [key] ++ textB dig.data.toList)) (Row.src HR7.out Tryd.underlying28 (bytesV_one _)) rfl (by unfold maxLen; omega) (by omega) HZ7.out ?_); intro x8 w8 ho8 hb8; have HF : Hid (Below G w7 w8) := Lib.hid hb8; have HO8 : Hid (BOwn w8 G x8 EB) := Lib.hid (own_bytes HL7.out HEB.out ho8); clear ho8 hb8)
      go_wp2_with fail
      refine pieceEnd_normal ⟨HF.out, ?_⟩
      obtain ⟨A8, c8, hv8, hr8⟩ := HO8.out.row
      have HR8 := Lib.hid hr8
      subst hv8
      clear hr8 HO8
      refine wpGrow_nil ?_
      repeat (go_big_quiet_step (fail))
      refine wpQuiet_nil ?_
      go_wp2
      go_ret2
      exact ⟨A8, _, c8, by rw [HE2.out]; rfl, HR8.out, HB7.out.trans (HF.out.mono (by rw [HGG.out]; omega))⟩
  · have g1 : (cv == 0) = false := by simpa using h0
    go_wp2
    go_ret2
    exact ⟨none, 0, 0, by rw [HE.out, if_neg h0]; rfl, by rw [HB.out, if_neg h0]; exact Row.nilRow _ _, HB1.out⟩
end Go.Proofs.YtnokhjpileamaaaDoor
