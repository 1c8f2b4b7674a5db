/- The walk of statement.Decode. -/
import Derived.Test.YtnlnbakkobmclaaDoorRead
namespace Go.Proofs.YtnlnbakkobmclaaDoor
open Go.RowKit
theorem takeS_size (us : List UInt8) (most : Int) (h0 : 0 ≤ most) : ((takeS us most).1.size : Int) ≤ most := by
  unfold takeS
  split
  · rename_i h
    have h1 := h.le; have h2 := h.nn
    simp only [strOf_size, List.length_take]
    omega
  · exact h0
theorem takeL_size (us : List UInt8) (most : Int) (h0 : 0 ≤ most) : ((takeL us most).1.length : Int) ≤ most := by
  unfold takeL
  split
  · rename_i h
    have h1 := h.le; have h2 := h.nn
    simp only [intsAt_len]
    omega
  · exact h0
theorem pinsL_size (us : List UInt8) : ∀ j, (pinsBs (pinsL j us).1).length ≤ 56 * j
  | 0 => by show (pinsBs []).length ≤ _; simp [pinsBs]
  | j + 1 => by
    show (pinsBs ((pinsL j us).1 ++ [pinAt (pinsL j us).2.1])).length ≤ _
    rw [pinsBs_snoc, List.length_append]
    have h1 := pinsL_size us j
    have h2 : (pinBs (pinAt (pinsL j us).2.1)).length ≤ 56 := by
      unfold pinBs
      rw [List.length_append, listB_len, textS_len]
      have : ((pinAt (pinsL j us).2.1).digest.size : Int) ≤ 32 := takeS_size _ _ (by omega)
      simp only [List.length_cons, List.length_nil]
      omega
    omega
theorem takeP_ok {us : List UInt8} (h : (takeP us).2.2 = true) : 0 ≤ (takeI us).1 ∧ (takeI us).1 ≤ 64 := by
  unfold takeP at h
  simp only [Bool.and_eq_true] at h
  have := h.1.2
  simpa [btw] using this
theorem takeP_size {us : List UInt8} (h : (takeP us).2.2 = true) : (takeP us).1.length ≤ 64 ∧ (pinsBs (takeP us).1).length ≤ 4000 := by
  have h1 := takeP_ok h
  have h2 := pinsL_size (takeI us).2.1 (takeI us).1.toNat
  have h3 := pinsL_len (takeI us).2.1 (takeI us).1.toNat
  exact ⟨by show (pinsL _ _).1.length ≤ _; rw [h3]; omega, by show (pinsBs (pinsL _ _).1).length ≤ _; omega⟩
/-- The parts of what is read. -/
theorem parse_parts (us : List UInt8) : ∃ (X0 : Int × List UInt8 × Bool) (X1 : Int × List UInt8 × Bool) (X2 : ByteArray × List UInt8 × Bool) (X3 : Int × List UInt8 × Bool) (X4 : Int × List UInt8 × Bool) (X5 : Int × List UInt8 × Bool) (X6 : Int × List UInt8 × Bool) (X7 : Int × List UInt8 × Bool) (X8 : List Int × List UInt8 × Bool) (X9 : List PinD × List UInt8 × Bool) (X10 : ByteArray × List UInt8 × Bool) (X11 : Int × List UInt8 × Bool) (X12 : ByteArray × List UInt8 × Bool), X0 = takeI us ∧ X1 = takeI X0.2.1 ∧ X2 = takeS X1.2.1 32 ∧ X3 = takeI X2.2.1 ∧ X4 = takeI X3.2.1 ∧ X5 = takeI X4.2.1 ∧ X6 = takeI X5.2.1 ∧ X7 = takeI X6.2.1 ∧ X8 = takeL X7.2.1 64 ∧ X9 = takeP X8.2.1 ∧ X10 = takeS X9.2.1 4096 ∧ X11 = takeI X10.2.1 ∧ X12 = takeS X11.2.1 32 ∧ parse us = (⟨X0.1, X1.1, X2.1, X3.1, X4.1, X5.1, X6.1, X7.1, X8.1, X9.1, X10.1, X11.1, X12.1⟩, X12.2.1, X0.2.2 && X1.2.2 && X2.2.2 && X3.2.2 && X4.2.2 && X5.2.2 && X6.2.2 && X7.2.2 && X8.2.2 && X9.2.2 && X10.2.2 && X11.2.2 && X12.2.2) :=
  ⟨_, _, _, _, _, _, _, _, _, _, _, _, _, rfl, rfl, rfl, rfl, rfl, rfl, rfl, rfl, rfl, rfl, rfl, rfl, rfl, rfl⟩
/-- What bytes say is not much. -/
theorem parse_small {us : List UInt8} (h : (parse us).2.2 = true) : Small (parse us).1 ∧ (parse us).1.list.length ≤ 64 ∧ (parse us).1.pins.length ≤ 64 := by
  obtain ⟨X0, X1, X2, X3, X4, X5, X6, X7, X8, X9, X10, X11, X12, h0, h1, h2, h3, h4, h5, h6, h7, h8, h9, h10, h11, h12, hp⟩ := parse_parts us
  rw [hp] at h ⊢
  simp only [Bool.and_eq_true] at h
  have k9 : X9.2.2 = true := h.1.1.1.2
  have z2 := takeS_size X1.2.1 32 (by omega)
  have z8 := takeL_size X7.2.1 64 (by omega)
  rw [h9] at k9
  have z9 := takeP_size k9
  have z10 := takeS_size X9.2.1 4096 (by omega)
  have z12 := takeS_size X11.2.1 32 (by omega)
  rw [← h2] at z2; rw [← h8] at z8; rw [← h9] at z9; rw [← h10] at z10; rw [← h12] at z12
  clear h k9 hp h0 h1 h2 h3 h4 h5 h6 h7 h8 h9 h10 h11 h12
  exact ⟨⟨by simp only; omega, by simp only; omega, by simp only; omega, by simp only; omega, by simp only; omega, by simp only; omega⟩, by simp only; omega, z9.1⟩
def DecR (w : World) (s : Stm) (E : Int) (e : Ending) (w' : World) : Prop :=
  ∃ A n c B m k, e = .returned (.tuple #[stmV s A n c B m k, .int .i64 E]) ∧ IRow w' A n c s.list ∧ PRow w' B m k s.pins ∧ Below w.heap.size w w'
noncomputable def decOk (us : List UInt8) : Bool := readOk us && decide (checkV (readS us) = 0) && sealedB (readS us)
noncomputable def decS (us : List UInt8) : Stm := if decOk us = true then readS us else zeroS
noncomputable def decE (us : List UInt8) : Int := if decOk us = true then 0 else 1
theorem results_dec {tmps : Array Value} {w : World} {s : Nat} {cs : Array Value} {v : Value} (h2 : tmps.getD 2 undef = .pointer (some ⟨s, 0, none⟩)) (h3 : tmps.getD 3 undef = v)
    (hs : w.heap[s]? = some (.cells cs 27 (0, 0))) (hz : cs.size = 13) :
    (results Tryd.f24 tmps).run Tryd.prog w = .ok (.tuple #[.agg cs, v]) w := by
  have hr : Tryd.f24.results = #[.cell 2 27, .tmp 3] := rfl
  have h2' : tmps[2]?.getD undef = .pointer (some ⟨s, 0, none⟩) := by simpa using h2
  have h3' : tmps[3]?.getD undef = v := by simpa using h3
  have hl := run_loadVar_row (P := Tryd.prog) w s 27 27 cs (0, 0) _ hs Tryd.underlying27 rfl (by rw [hz]; kernel_rfl)
  unfold results
  rw [hr]
  simp [h2', h3', asAddr, hl]
set_option maxRecDepth 100000 in
set_option maxHeartbeats 2000000 in
theorem decode_any (A : Option Addr) (n c : Nat) (us : List UInt8) (w : World) (hr : BRow w A n c us) (hn : n ≤ 900000) (hR : Rounds w) :
    Calls Tryd.prog 24 #[.slice A n c] w (DecR w (decS us) (decE us)) := by
  have HRD := Lib.hid (read_any A n c us (w.alloc (.cells #[.int .i64 0, .int .i64 0, .string ⟨#[]⟩, .int .i64 0, .int .i64 0, .int .i64 0, .int .i64 0, .int .i64 0, .slice none 0 0, .slice none 0 0, .string ⟨#[]⟩, .int .i64 0, .string ⟨#[]⟩] 27)) (Row.later hr (one_new w _)) hn)
  have HRO := Lib.hid hR
  have HSM : Hid (readOk us = true → Small (readS us) ∧ (readS us).list.length ≤ 64 ∧ (readS us).pins.length ≤ 64) := Lib.hid fun h => by
    have h2 : (parse us).2.2 = true := by unfold readOk at h; simp only [Bool.and_eq_true] at h; exact h.1
    unfold readS; rw [if_pos h]; exact parse_small h2
  have HOK : Hid (decOk us = (readOk us && decide (checkV (readS us) = 0) && sealedB (readS us))) := Lib.hid rfl
  have HDS : Hid (decS us = if decOk us = true then readS us else zeroS) := Lib.hid rfl
  have HDE : Hid (decE us = if decOk us = true then 0 else 1) := Lib.hid rfl
  clear hr hR
  generalize decS us = DS at HDS ⊢
  generalize decE us = DE at HDE ⊢
  generalize decOk us = OK at HOK HDS HDE
  generalize readS us = s at HRD HSM HOK HDS
  generalize readOk us = ok at HRD HSM HOK
  have hq0 := heap_alloc_new w (.cells #[.int .i64 0, .int .i64 0, .string ⟨#[]⟩, .int .i64 0, .int .i64 0, .int .i64 0, .int .i64 0, .int .i64 0, .slice none 0 0, .slice none 0 0, .string ⟨#[]⟩, .int .i64 0, .string ⟨#[]⟩] 27)
  have HQ0 := Lib.hid hq0; clear hq0
  go_enter Tryd.func24, Tryd.ntmps24
  go_wp2_with fail
  refine HRD.out.mono ?_
  rintro e y1 ⟨A1, n1, c1, B1, m1, k1, rfl, hl, hp, hna, hnb, hb⟩
  have HNA : Hid (∀ ad, A1 = some ad → ad.block ≠ w.heap.size) := Lib.hid fun ad hA => by have := (hna ad hA).1; simp at this; omega
  have HNB : Hid (∀ ad, B1 = some ad → ad.block ≠ w.heap.size) := Lib.hid fun ad hA => by have := (hnb ad hA).1; simp at this; omega
  clear hna hnb
  have HB1 := Lib.hid ((one_new w (.cells #[.int .i64 0, .int .i64 0, .string ⟨#[]⟩, .int .i64 0, .int .i64 0, .int .i64 0, .int .i64 0, .int .i64 0, .slice none 0 0, .slice none 0 0, .string ⟨#[]⟩, .int .i64 0, .string ⟨#[]⟩] 27)).trans (hb.mono (by simp))); have HQ1 := Lib.hid ((hb.block w.heap.size (by simp)).trans HQ0.out); have HL1 := Lib.hid hl; have HP1 := Lib.hid hp
  have HZ1 : Hid (w.heap.size < y1.heap.size) := Lib.hid (by have := hb.size; simp at this; omega)
  have hln := hl.len; have hpn := hp.len
  clear hb hl hp HRD HQ0
  have HCK : Hid (ok = true → ∀ y, Below y1.heap.size y1 y → Calls Tryd.prog 26 #[stmV s A1 n1 c1 B1 m1 k1] y (SaysL (.int .i64 (checkV s)) y)) := Lib.hid fun h y hy => check_any s A1 n1 c1 B1 m1 k1 y (HL1.out.later hy) (HP1.out.later hy) (by have := (HSM.out h).2.1; omega) (by have := (HSM.out h).2.2; omega) (by have := (HSM.out h).1.body; omega)
  have HSL : Hid (ok = true → ∀ y, Below y1.heap.size y1 y → Calls Tryd.prog 21 #[stmV s A1 n1 c1 B1 m1 k1] y (SaysL (.bool (sealedB s)) y)) := Lib.hid fun h y hy => sealed_any s A1 n1 c1 B1 m1 k1 y (HL1.out.later hy) (HP1.out.later hy) (HSM.out h).1 (HRO.out.later (HB1.out.trans (hy.mono HB1.out.size)))
  clear hln hpn HSM
  generalize checkV s = cv at HOK HCK
  generalize sealedB s = sv at HOK HSL
  obtain ⟨sa, sn, sp, st, sk, s5, s6, s7, sl, spn, s10, s11, s12⟩ := s
  unfold stmV at HCK HSL ⊢
  simp only at HL1 HP1 HCK HSL
  cases ok
  · have HV : Hid (OK = false) := by unfold Hid; rw [HOK.out]; rfl
    go_wp2_with (refine wpList_store_row rfl 27 (.tmp 2) (.tmp 23) rfl w.heap.size zeroA rfl rfl 27 _ ((Below.heap_alloc _ _ _ HZ1.out).trans HQ1.out) (by kernel_rfl) rfl (by simp [Value.oneCell', zeroA]) ?_)
    refine bodyPost_ret (results_dec rfl rfl (setRow_heap _ _ _ zeroA _ _ ((Below.heap_alloc y1 (.cells #[.int .i64 sa, .int .i64 sn, .string sp, .int .i64 st, .int .i64 sk, .int .i64 s5, .int .i64 s6, .int .i64 s7, .slice A1 n1 c1, .slice B1 m1 k1, .string s10, .int .i64 s11, .string s12] 27) _ HZ1.out).trans HQ1.out)) rfl) rfl ⟨none, 0, 0, none, 0, 0, by rw [HDS.out, HDE.out, HV.out]; rfl, by rw [HDS.out, HV.out]; exact Row.nilRow _ _, by rw [HDS.out, HV.out]; exact Row.nilRow _ _, below_setRow (HB1.out.alloc HB1.out.size _) (Nat.le_refl _) _⟩
  · have HZ2 : Hid (y1.heap.size < (y1.alloc (.cells #[.int .i64 sa, .int .i64 sn, .string sp, .int .i64 st, .int .i64 sk, .int .i64 s5, .int .i64 s6, .int .i64 s7, .slice A1 n1 c1, .slice B1 m1 k1, .string s10, .int .i64 s11, .string s12] 27)).heap.size) := Lib.hid (by simp)
    have HX2 := Lib.hid (heap_alloc_new y1 (.cells #[.int .i64 sa, .int .i64 sn, .string sp, .int .i64 st, .int .i64 sk, .int .i64 s5, .int .i64 s6, .int .i64 s7, .slice A1 n1 c1, .slice B1 m1 k1, .string s10, .int .i64 s11, .string s12] 27)); have HQ2 := Lib.hid ((Below.heap_alloc y1 (.cells #[.int .i64 sa, .int .i64 sn, .string sp, .int .i64 st, .int .i64 sk, .int .i64 s5, .int .i64 s6, .int .i64 s7, .slice A1 n1 c1, .slice B1 m1 k1, .string s10, .int .i64 s11, .string s12] 27) _ HZ1.out).trans HQ1.out); have HB2 := Lib.hid (HB1.out.alloc HB1.out.size (.cells #[.int .i64 sa, .int .i64 sn, .string sp, .int .i64 st, .int .i64 sk, .int .i64 s5, .int .i64 s6, .int .i64 s7, .slice A1 n1 c1, .slice B1 m1 k1, .string s10, .int .i64 s11, .string s12] 27)); have HL2 := Lib.hid (HL1.out.later (one_new y1 (.cells #[.int .i64 sa, .int .i64 sn, .string sp, .int .i64 st, .int .i64 sk, .int .i64 s5, .int .i64 s6, .int .i64 s7, .slice A1 n1 c1, .slice B1 m1 k1, .string s10, .int .i64 s11, .string s12] 27))); have HP2 := Lib.hid (HP1.out.later (one_new y1 (.cells #[.int .i64 sa, .int .i64 sn, .string sp, .int .i64 st, .int .i64 sk, .int .i64 s5, .int .i64 s6, .int .i64 s7, .slice A1 n1 c1, .slice B1 m1 k1, .string s10, .int .i64 s11, .string s12] 27))); have HN2 := Lib.hid (one_new y1 (.cells #[.int .i64 sa, .int .i64 sn, .string sp, .int .i64 st, .int .i64 sk, .int .i64 s5, .int .i64 s6, .int .i64 s7, .slice A1 n1 c1, .slice B1 m1 k1, .string s10, .int .i64 s11, .string s12] 27))
    go_wp2_with fail
    refine (HCK.out (by first | rfl | trivial) _ HN2.out).mono ?_
    generalize y1.alloc (.cells #[.int .i64 sa, .int .i64 sn, .string sp, .int .i64 st, .int .i64 sk, .int .i64 s5, .int .i64 s6, .int .i64 s7, .slice A1 n1 c1, .slice B1 m1 k1, .string s10, .int .i64 s11, .string s12] 27) = y2 at HZ2 HX2 HQ2 HB2 HL2 HP2 HN2 ⊢
    rintro e y3 ⟨rfl, hb⟩
    have HX3 := Lib.hid ((hb.block _ HZ2.out).trans HX2.out); have HQ3 := Lib.hid ((hb.block w.heap.size (by have := HZ1.out; have := HZ2.out; omega)).trans HQ2.out); have HB3 := Lib.hid (HB2.out.trans (hb.mono HB2.out.size)); have HL3 := Lib.hid (HL2.out.later hb); have HP3 := Lib.hid (HP2.out.later hb); have HN3 := Lib.hid (HN2.out.trans (hb.mono HN2.out.size)); have HZ3 : Hid (y1.heap.size < y3.heap.size) := Lib.hid (Nat.lt_of_lt_of_le HZ2.out hb.size)
    clear hb HX2 HQ2 HB2 HL2 HP2 HN2 HCK HL1 HP1 HQ1
    by_cases h0 : cv = 0
    · subst h0
      obtain ⟨hc0, hc1, hc2, hc3, hc4, hc5, hc6, hc7, hc8, hc9, hc10, hc11, hc12⟩ := stm_cells (A := A1) (n := n1) (c := c1) (B := B1) (m := m1) (k := k1) (s := ⟨sa, sn, sp, st, sk, s5, s6, s7, sl, spn, s10, s11, s12⟩) HX3.out
      go_wp2_with fail
      refine (HSL.out (by first | rfl | trivial) _ HN3.out).mono ?_
      rintro e y4 ⟨rfl, hb⟩
      have HX4 := Lib.hid ((hb.block _ HZ3.out).trans HX3.out); have HQ4 := Lib.hid ((hb.block w.heap.size (by have := HZ1.out; have := HZ3.out; omega)).trans HQ3.out); have HB4 := Lib.hid (HB3.out.trans (hb.mono HB3.out.size)); have HL4 := Lib.hid (HL3.out.later hb); have HP4 := Lib.hid (HP3.out.later hb)
      clear hb HX3 HQ3 HB3 HL3 HP3 HN3 hc0 hc1 hc2 hc3 hc4 hc5 hc6 hc7 hc8 hc9 hc10 hc11 hc12
      cases sv
      · have HV : Hid (OK = false) := by unfold Hid; rw [HOK.out]; rfl
        go_wp2_with (refine wpList_store_row rfl 27 (.tmp 2) (.tmp 23) rfl w.heap.size zeroA rfl rfl 27 _ HQ4.out (by kernel_rfl) rfl (by simp [Value.oneCell', zeroA]) ?_)
        refine bodyPost_ret (results_dec rfl rfl (setRow_heap _ _ _ zeroA _ _ HQ4.out) rfl) rfl ⟨none, 0, 0, none, 0, 0, by rw [HDS.out, HDE.out, HV.out]; rfl, by rw [HDS.out, HV.out]; exact Row.nilRow _ _, by rw [HDS.out, HV.out]; exact Row.nilRow _ _, below_setRow HB4.out (Nat.le_refl _) _⟩
      · have HV : Hid (OK = true) := by unfold Hid; rw [HOK.out]; rfl
        obtain ⟨hc0, hc1, hc2, hc3, hc4, hc5, hc6, hc7, hc8, hc9, hc10, hc11, hc12⟩ := stm_cells (A := A1) (n := n1) (c := c1) (B := B1) (m := m1) (k := k1) (s := ⟨sa, sn, sp, st, sk, s5, s6, s7, sl, spn, s10, s11, s12⟩) HX4.out
        go_wp2_with (refine wpList_store_row rfl 27 (.tmp 2) (.tmp 24) rfl w.heap.size #[.int .i64 sa, .int .i64 sn, .string sp, .int .i64 st, .int .i64 sk, .int .i64 s5, .int .i64 s6, .int .i64 s7, .slice A1 n1 c1, .slice B1 m1 k1, .string s10, .int .i64 s11, .string s12] rfl rfl 27 _ HQ4.out (by kernel_rfl) rfl (by simp [Value.oneCell']) ?_)
        refine bodyPost_ret (results_dec rfl rfl (setRow_heap _ _ _ #[.int .i64 sa, .int .i64 sn, .string sp, .int .i64 st, .int .i64 sk, .int .i64 s5, .int .i64 s6, .int .i64 s7, .slice A1 n1 c1, .slice B1 m1 k1, .string s10, .int .i64 s11, .string s12] _ _ HQ4.out) rfl) rfl ⟨A1, n1, c1, B1, m1, k1, by rw [HDS.out, HDE.out, HV.out]; rfl, ?_, ?_, below_setRow HB4.out (Nat.le_refl _) _⟩
        · rw [HDS.out, HV.out]; exact Row.keep HL4.out fun ad hA _ _ => setRow_other _ _ _ _ (HNA.out ad hA)
        · rw [HDS.out, HV.out]; exact Row.keep HP4.out fun ad hA _ _ => setRow_other _ _ _ _ (HNB.out ad hA)
    · have g1 : (cv == 0) = false := by simpa using h0
      have HV : Hid (OK = false) := by unfold Hid; rw [HOK.out]; simp [h0]
      go_wp2_with (refine wpList_store_row rfl 27 (.tmp 2) (.tmp 23) rfl w.heap.size zeroA rfl rfl 27 _ HQ3.out (by kernel_rfl) rfl (by simp [Value.oneCell', zeroA]) ?_)
      refine bodyPost_ret (results_dec rfl rfl (setRow_heap _ _ _ zeroA _ _ HQ3.out) rfl) rfl ⟨none, 0, 0, none, 0, 0, by rw [HDS.out, HDE.out, HV.out]; rfl, by rw [HDS.out, HV.out]; exact Row.nilRow _ _, by rw [HDS.out, HV.out]; exact Row.nilRow _ _, below_setRow HB3.out (Nat.le_refl _) _⟩
end Go.Proofs.YtnlnbakkobmclaaDoor
