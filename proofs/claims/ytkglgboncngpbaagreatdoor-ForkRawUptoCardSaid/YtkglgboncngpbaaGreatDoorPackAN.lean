import Derived.Test.YtkglgboncngpbaaGreatDoorPackAE
import Derived.Test.YtkglgboncngpbaaGreatDoorPackAL
import Derived.Test.YtkglgboncngpbaaGreatDoorRefCheckP
import Derived.Test.YtkglgboncngpbaaGreatDoorPackAC
import Derived.Test.YtkglgboncngpbaaGreatDoorPackAF
import Derived.Test.YtkglgboncngpbaaGreatDoorPackAH
import Derived.Test.YtkglgboncngpbaaGreatDoorPackAG
/- The walk of the reference's Check of evidence. -/
namespace Go.Proofs.YtkglgboncngpbaaGreatDoor
open Go.RowKit
/-- Where the keys of both statements lie. -/
theorem fork_keys (s : Stm) (A : Option Addr) (n c : Nat) (B : Option Addr) (m k : Nat) (t : Stm) (A2 : Option Addr) (n2 c2 : Nat) (B2 : Option Addr) (m2 k2 : Nat) {VA : Array Value} (h : forkV s A n c B m k t A2 n2 c2 B2 m2 k2 = .agg VA) :
    VA[0]? = some (.int .i64 s.author) ∧ VA[1]? = some (.int .i64 s.number) ∧ VA[12]? = some (.string s.dig) ∧ VA[13]? = some (.int .i64 t.author) ∧ VA[14]? = some (.int .i64 t.number) ∧ VA[25]? = some (.string t.dig) := by
  unfold forkV at h
  injection h with h
  subst h
  exact ⟨rfl, rfl, rfl, rfl, rfl, rfl⟩
set_option maxRecDepth 100000 in
set_option maxHeartbeats 4000000 in
theorem refFkCheck_any (s : Stm) (A : Option Addr) (n c : Nat) (B : Option Addr) (m k : Nat) (t : Stm) (A2 : Option Addr) (n2 c2 : Nat) (B2 : Option Addr) (m2 k2 : Nat) (w : World) (hl : IRow w A n c s.list) (hp : PRow w B m k s.pins) (hl2 : IRow w A2 n2 c2 t.list) (hp2 : PRow w B2 m2 k2 t.pins) (hs : Small s) (ht : Small t) :
    Calls Tryz.prog 37 #[forkV s A n c B m k t A2 n2 c2 B2 m2 k2] w (SaysL (.int .i64 (checkF s t)) w) := by
  have HC1 : Hid (∀ w', Below w.heap.size w w' → Calls Tryz.prog 49 #[stmV s A n c B m k] w' (SaysL (.int .i64 (checkV s)) w')) := Lib.hid fun w' h => refCheck_any s A n c B m k w' (hl.later h) (hp.later h) (by have := hl.len; have := hs.list; omega) (by have := hp.len; have := hs.pins; omega) (by have := hs.body; omega)
  have HC2 : Hid (∀ w', Below w.heap.size w w' → Calls Tryz.prog 49 #[stmV t A2 n2 c2 B2 m2 k2] w' (SaysL (.int .i64 (checkV t)) w')) := Lib.hid fun w' h => refCheck_any t A2 n2 c2 B2 m2 k2 w' (hl2.later h) (hp2.later h) (by have := hl2.len; have := ht.list; omega) (by have := hp2.len; have := ht.pins; omega) (by have := ht.body; omega)
  have HS1 : Hid (∀ w', Below w.heap.size w w' → Calls Tryz.prog 50 #[stmV s A n c B m k] w' (SaysL (.bool (sealedB s)) w')) := Lib.hid fun w' h => refSealed_any s A n c B m k w' (hl.later h) (hp.later h) hs
  have HS2 : Hid (∀ w', Below w.heap.size w w' → Calls Tryz.prog 50 #[stmV t A2 n2 c2 B2 m2 k2] w' (SaysL (.bool (sealedB t)) w')) := Lib.hid fun w' h => refSealed_any t A2 n2 c2 B2 m2 k2 w' (hl2.later h) (hp2.later h) ht
  obtain ⟨SA, TA, VA, eS, eT, eV, h26⟩ := two26 s A n c B m k t A2 n2 c2 B2 m2 k2
  have HK := Lib.hid (fork_keys s A n c B m k t A2 n2 c2 B2 m2 k2 eV)
  rw [eS] at HC1 HS1
  rw [eT] at HC2 HS2
  rw [eV]
  have H26 := Lib.hid h26
  clear eS eT eV hl hp hl2 hp2 hs ht h26
  have HCF : Hid (checkF s t = if checkV s = 0 then (if checkV t = 0 then (if sealedB s = true then (if sealedB t = true then (if twoB s t = true then 0 else 12) else 6) else 6) else checkV t) else checkV s) := Lib.hid rfl
  have HTB : Hid (twoB s t = (decide (s.author = t.author) && (decide (s.number = t.number) && Op.bytesLess s.dig.toList t.dig.toList))) := Lib.hid rfl
  generalize checkF s t = E at HCF ⊢
  generalize checkV s = cs at HCF HC1
  generalize checkV t = ct at HCF HC2
  generalize sealedB s = ss at HCF HS1
  generalize sealedB t = st at HCF HS2
  generalize twoB s t = tf at HCF HTB
  have HX : Hid ((w.alloc (.cells VA 29)).heap[w.heap.size]? = some (.cells VA 29 (0, 0))) := Lib.hid (heap_alloc_new _ _)
  have HB : Hid (Below w.heap.size w (w.alloc (.cells VA 29))) := Lib.hid (one_new w _)
  have HZ : Hid (w.heap.size < (w.alloc (.cells VA 29)).heap.size) := Lib.hid (by simp)
  go_enter Tryz.func37, Tryz.ntmps37
  go_wp2_with (refine wpList_load_part rfl 27 (.tmp 5) rfl w.heap.size 0 rfl 29 VA SA (0, 0) _ HX.out Tryz.underlying27 rfl H26.out.iS (fun j hj => by have h := H26.out.c0 j (by rw [H26.out.z1] at hj; exact hj); first | exact h | (rw [Nat.zero_add]; exact h)) ?_)
  refine (HC1.out _ HB.out).mono ?_
  rintro e w1 ⟨rfl, hb⟩
  replace HX := Lib.hid ((hb.block _ HZ.out).trans HX.out); replace HB := Lib.hid (HB.out.trans (hb.mono HB.out.size)); replace HZ : Hid (w.heap.size < w1.heap.size) := Lib.hid (Nat.lt_of_lt_of_le HZ.out hb.size); clear hb
  by_cases h0 : cs = 0
  · subst h0
    go_wp2_with (refine wpList_load_part rfl 27 (.tmp 11) rfl w.heap.size 13 rfl 29 VA TA (0, 0) _ HX.out Tryz.underlying27 rfl H26.out.iT (fun j hj => by have h := H26.out.c1 j (by rw [H26.out.z2] at hj; exact hj); first | exact h | (rw [Nat.zero_add]; exact h)) ?_)
    refine (HC2.out _ HB.out).mono ?_
    rintro e w2 ⟨rfl, hb⟩
    replace HX := Lib.hid ((hb.block _ HZ.out).trans HX.out); replace HB := Lib.hid (HB.out.trans (hb.mono HB.out.size)); replace HZ : Hid (w.heap.size < w2.heap.size) := Lib.hid (Nat.lt_of_lt_of_le HZ.out hb.size); clear hb
    by_cases h1 : ct = 0
    · subst h1
      go_wp2_with (refine wpList_load_part rfl 27 (.tmp 17) rfl w.heap.size 0 rfl 29 VA SA (0, 0) _ HX.out Tryz.underlying27 rfl H26.out.iS (fun j hj => by have h := H26.out.c0 j (by rw [H26.out.z1] at hj; exact hj); first | exact h | (rw [Nat.zero_add]; exact h)) ?_)
      refine (HS1.out _ HB.out).mono ?_
      rintro e w3 ⟨rfl, hb⟩
      replace HX := Lib.hid ((hb.block _ HZ.out).trans HX.out); replace HB := Lib.hid (HB.out.trans (hb.mono HB.out.size)); replace HZ : Hid (w.heap.size < w3.heap.size) := Lib.hid (Nat.lt_of_lt_of_le HZ.out hb.size); clear hb
      cases ss
      · go_wp2_with fail
        go_ret
        exact ⟨by rw [HCF.out]; rfl, HB.out⟩
      go_wp2_with (refine wpList_load_partG rfl 27 (.tmp 22) rfl w.heap.size 13 rfl 29 VA TA (0, 0) _ HX.out Tryz.underlying27 rfl H26.out.iT (fun j hj => by have h := H26.out.c1 j (by rw [H26.out.z2] at hj; exact hj); first | exact h | (rw [Nat.zero_add]; exact h)) ?_)
      refine (HS2.out _ HB.out).mono ?_
      rintro e w4 ⟨rfl, hb⟩
      replace HX := Lib.hid ((hb.block _ HZ.out).trans HX.out); replace HB := Lib.hid (HB.out.trans (hb.mono HB.out.size)); replace HZ : Hid (w.heap.size < w4.heap.size) := Lib.hid (Nat.lt_of_lt_of_le HZ.out hb.size); clear hb
      cases st
      · go_wp2_with fail
        go_ret
        exact ⟨by rw [HCF.out]; rfl, HB.out⟩
      have hc0 := (cell_of_row _ _ 0 _ _ _ HX.out).trans (HK.out.1)
      have hc1 := (cell_of_row _ _ 1 _ _ _ HX.out).trans (HK.out.2.1)
      have hc2 := (cell_of_row _ _ 12 _ _ _ HX.out).trans (HK.out.2.2.1)
      have hc3 := (cell_of_row _ _ 13 _ _ _ HX.out).trans (HK.out.2.2.2.1)
      have hc4 := (cell_of_row _ _ 14 _ _ _ HX.out).trans (HK.out.2.2.2.2.1)
      have hc5 := (cell_of_row _ _ 25 _ _ _ HX.out).trans (HK.out.2.2.2.2.2)
      generalize s.author = x0 at *
      generalize t.author = y0 at *
      generalize s.number = x1 at *
      generalize t.number = y1 at *
      by_cases e0 : x0 = y0
      · subst e0
        by_cases e1 : x1 = y1
        · subst e1
          cases hbl : Op.bytesLess s.dig.toList t.dig.toList
          · have ht : tf = false := by rw [HTB.out, hbl]; simp
            go_wp2_with fail
            go_ret
            exact ⟨by rw [HCF.out]; rw [ht]; rfl, HB.out⟩
          · have ht : tf = true := by rw [HTB.out, hbl]; simp
            go_wp2_with fail
            go_ret
            exact ⟨by rw [HCF.out]; rw [ht]; rfl, HB.out⟩
        · have g1 : (x1 == y1) = false := by simpa using e1
          have ht : tf = false := by rw [HTB.out]; simp [e1]
          go_wp2_with fail
          go_ret
          exact ⟨by rw [HCF.out]; rw [ht]; rfl, HB.out⟩
      · have g0 : (x0 == y0) = false := by simpa using e0
        have ht : tf = false := by rw [HTB.out]; simp [e0]
        go_wp2_with fail
        go_ret
        exact ⟨by rw [HCF.out]; rw [ht]; rfl, HB.out⟩
    · have g1 : (ct == 0) = false := by simpa using h1
      go_wp2_with fail
      go_ret
      exact ⟨by rw [HCF.out]; simp [h1], HB.out⟩
  · have g0 : (cs == 0) = false := by simpa using h0
    go_wp2_with fail
    go_ret
    exact ⟨by rw [HCF.out]; simp [h0], HB.out⟩
end Go.Proofs.YtkglgboncngpbaaGreatDoor
/- The walk of the reference's Encode. -/
namespace Go.Proofs.YtkglgboncngpbaaGreatDoor
open Go.RowKit
set_option maxRecDepth 100000 in
set_option maxHeartbeats 800000 in
theorem refEncode_any (s : Stm) (A : Option Addr) (n c : Nat) (B : Option Addr) (m k : Nat) (w : World) (hl : IRow w A n c s.list) (hp : PRow w B m k s.pins) (hs : Small s) :
    Calls Tryz.prog 45 #[stmV s A n c B m k] w (EncS w s) := by
  have hn : n ≤ 1000 := by rw [← hl.len]; exact hs.list
  have hm : m ≤ 1000 := by rw [← hp.len]; exact hs.pins
  have H1 : Hid (∀ w', Below w.heap.size w w' → Calls Tryz.prog 49 #[stmV s A n c B m k] w' (SaysL (.int .i64 (checkV s)) w')) := Lib.hid fun w' h => refCheck_any s A n c B m k w' (hl.later h) (hp.later h) (by omega) (by omega) (by have := hs.body; omega)
  have H2 : Hid (∀ w', Below w.heap.size w w' → Calls Tryz.prog 50 #[stmV s A n c B m k] w' (SaysL (.bool (sealedB s)) w')) := Lib.hid fun w' h => refSealed_any s A n c B m k w' (hl.later h) (hp.later h) hs
  have H3 : Hid (∀ w', Below w.heap.size w w' → Calls Tryz.prog 62 #[stmV s A n c B m k] w' (GivesB w' (bodyB s))) := Lib.hid fun w' h => refBytes_any s A n c B m k w' (hl.later h) (hp.later h) hs
  have HE : Hid (encE s = if checkV s = 0 then (if sealedB s = true then 0 else 6) else checkV s) := Lib.hid rfl
  have HB : Hid (encB s = if checkV s = 0 then (if sealedB s = true then bodyB s ++ (listB [s.key] ++ textB s.dig.data.toList) else []) else []) := Lib.hid rfl
  have hdig := hs.dig; have hlen := body_len hs
  clear hl hp hs
  unfold EncS
  generalize encE s = E at HE ⊢
  generalize encB s = EB at HB ⊢
  generalize checkV s = cv at HE HB H1
  generalize sealedB s = sv at HE HB H2
  generalize bodyB s = R at HB H3 hlen
  obtain ⟨author, number, prev, time, kind, a, b, cc, list, pins, body, key, dig⟩ := s
  unfold stmV at *
  simp only at hdig HB
  go_enter Tryz.func45, Tryz.ntmps45
  go_wp2_with fail
  refine (H1.out _ (one_new _ _)).mono ?_
  rintro e w1 ⟨rfl, hb⟩
  have HB1 := Lib.hid ((one_new w _).trans (hb.mono (by simp))); have HX1 := Lib.hid ((hb.block w.heap.size (by simp)).trans (heap_alloc_new w (.cells #[.int .i64 author, .int .i64 number, .string prev, .int .i64 time, .int .i64 kind, .int .i64 a, .int .i64 b, .int .i64 cc, .slice A n c, .slice B m k, .string body, .int .i64 key, .string dig] 27))); have HZ1 : Hid (w.heap.size < w1.heap.size) := Lib.hid (by have := hb.size; simp at this; omega)
  clear hb
  by_cases h0 : cv = 0
  · subst h0
    obtain ⟨hc0, hc1, hc2, hc3, hc4, hc5, hc6, hc7, hc8, hc9, hc10, hc11, hc12⟩ := stm_cells (s := ⟨author, number, prev, time, kind, a, b, cc, list, pins, body, key, dig⟩) HX1.out
    go_wp2_with fail
    refine (H2.out _ HB1.out).mono ?_
    rintro e w2 ⟨rfl, hb⟩
    have HB2 := Lib.hid (HB1.out.trans (hb.mono HB1.out.size)); have HX2 := Lib.hid ((hb.block w.heap.size HZ1.out).trans HX1.out); have HZ2 : Hid (w.heap.size < w2.heap.size) := Lib.hid (Nat.lt_of_lt_of_le HZ1.out hb.size)
    clear hb hc0 hc1 hc2 hc3 hc4 hc5 hc6 hc7 hc8 hc9 hc10 hc11 hc12 HB1 HX1 HZ1
    cases g2 : sv
    · go_wp2
      go_ret2
      exact ⟨none, 0, 0, by rw [HE.out, g2]; rfl, by rw [HB.out, g2]; exact Row.nilRow _ _, HB2.out⟩
    have HE2 : Hid (E = 0) := by unfold Hid; rw [HE.out, g2]; rfl
    have HEB : Hid (EB = R ++ be8 key ++ textB dig.data.toList) := by unfold Hid; rw [HB.out, g2]; simp [listB]
    clear HE HB
    go_wp2_with fail
    refine wp_region_grow (by kernel_rfl) Later Later.refl (fun _ _ _ => Later.trans) [10, 11] [([0, 2, 3, 4, 6, 7, 8], 1), ([], 5), ([], 9)] (by kernel_rfl) (by kernel_rfl) (by kernel_rfl) ?_
    simp only [List.map_cons, List.map_nil, pick, List.getD_cons_zero, List.getD_cons_succ]
    have HB3 := Lib.hid HB2.out.drew; have HX3 : Hid (w2.drew.heap[w.heap.size]? = _) := HX2; have HZ3 : Hid (w.heap.size < w2.drew.heap.size) := HZ2
    clear HB2 HX2 HZ2
    generalize w2.drew = w3 at HB3 HX3 HZ3 ⊢
    obtain ⟨hf0, hf1, hf2, hf3, hf4, hf5, hf6, hf7, hf8, hf9, hf10, hf11, hf12⟩ := stm_futs (F := Later) Later.refl (s := ⟨author, number, prev, time, kind, a, b, cc, list, pins, body, key, dig⟩) (W := w3) (fun w' h => h.block _ HZ3.out) HX3.out
    refine wpGrow_cons ?_
    repeat (go_big_quiet_step (fail))
    refine wpQuiet_nil ?_
    clear hf0 hf1 hf2 hf3 hf4 hf5 hf6 hf7 hf8 hf9 hf10 hf11 hf12
    go_wp2_with fail
    refine (H3.out w3 HB3.out).mono ?_
    rintro e w4 ⟨A4, m4, c4, rfl, hm4, hr, -, hb⟩
    have HR4 := Lib.hid hr; have HB4 := Lib.hid (HB3.out.trans (hb.mono HB3.out.size)); have HF : Hid (Later w3 w4) := Lib.hid hb
    clear hr hb HB3 HX3 HZ3
    have hm4' : m4 ≤ 2000000 := by rw [hm4]; exact hlen
    have HM4 : Hid (R.length = m4) := Lib.hid hm4.symm
    clear hm4
    go_wp2_with fail
    refine pieceEnd_normal ⟨HF.out, ?_⟩
    clear HF
    refine wpGrow_cons ?_
    refine wpQuiet_nil ?_
    go_wp2_with fail
    refine (refInt_any A4 m4 c4 R key w4 HR4.out (by omega)).mono ?_
    rintro e w5 ⟨A5, m5, c5, rfl, hm5, hr, -, hb⟩
    have HR5 := Lib.hid hr; have HB5 := Lib.hid (HB4.out.trans (hb.mono HB4.out.size)); have HF : Hid (Later w4 w5) := Lib.hid hb
    clear hr hb HB4 HR4
    have hm5' : m5 ≤ 2000008 := by rw [hm5, List.length_append, be8_len, HM4.out]; omega
    clear hm5
    go_wp2_with fail
    refine pieceEnd_normal ⟨HF.out, ?_⟩
    clear HF
    refine wpGrow_cons ?_
    refine wpQuiet_nil ?_
    go_wp2_with fail
    refine (refText_any A5 m5 c5 _ dig w5 HR5.out (by omega) (by omega)).mono ?_
    rintro e w6 ⟨A6, m6, c6, rfl, -, hr, -, hb⟩
    have HR6 := Lib.hid hr; have HB6 := Lib.hid (HB5.out.trans (hb.mono HB5.out.size)); have HF : Hid (Later w5 w6) := Lib.hid hb
    clear hr hb HB5 HR5
    go_wp2_with fail
    refine pieceEnd_normal ⟨HF.out, ?_⟩
    clear HF
    refine wpGrow_nil ?_
    repeat (go_big_quiet_step (fail))
    refine wpQuiet_nil ?_
    go_wp2
    go_ret2
    exact ⟨A6, m6, c6, by rw [HE2.out]; rfl, by rw [HEB.out]; exact HR6.out, HB6.out⟩
  · have g1 : (cv == 0) = false := by simpa using h0
    go_wp2
    go_ret2
    exact ⟨none, 0, 0, by rw [HE.out, if_neg h0]; rfl, by rw [HB.out, if_neg h0]; exact Row.nilRow _ _, HB1.out⟩
end Go.Proofs.YtkglgboncngpbaaGreatDoor
/- The walk of the reference's Encode of evidence. -/
namespace Go.Proofs.YtkglgboncngpbaaGreatDoor
open Go.RowKit
set_option maxRecDepth 100000 in
set_option maxHeartbeats 4000000 in
theorem refFkEncode_any (s : Stm) (A : Option Addr) (n c : Nat) (B : Option Addr) (m k : Nat) (t : Stm) (A2 : Option Addr) (n2 c2 : Nat) (B2 : Option Addr) (m2 k2 : Nat) (w : World) (hl : IRow w A n c s.list) (hp : PRow w B m k s.pins) (hl2 : IRow w A2 n2 c2 t.list) (hp2 : PRow w B2 m2 k2 t.pins) (hs : Small s) (ht : Small t) :
    Calls Tryz.prog 24 #[forkV s A n c B m k t A2 n2 c2 B2 m2 k2] w (EncR w (checkF s t) (encF s t)) := by
  have HCK : Hid (∀ w', Below w.heap.size w w' → Calls Tryz.prog 37 #[forkV s A n c B m k t A2 n2 c2 B2 m2 k2] w' (SaysL (.int .i64 (checkF s t)) w')) := Lib.hid fun w' h => refFkCheck_any s A n c B m k t A2 n2 c2 B2 m2 k2 w' (hl.later h) (hp.later h) (hl2.later h) (hp2.later h) hs ht
  have HE1 : Hid (checkF s t = 0 → ∀ w', Below w.heap.size w w' → Calls Tryz.prog 45 #[stmV s A n c B m k] w' (EncR w' 0 (wholeB s))) := Lib.hid fun g w' h => by
    obtain ⟨g1, g2, g3, g4, -⟩ := checkF_parts g
    have h1 := refEncode_any s A n c B m k w' (hl.later h) (hp.later h) hs
    unfold EncS encE encB at h1
    rw [if_pos g1, if_pos g3, if_pos g1, if_pos g3] at h1
    exact h1
  have HE2 : Hid (checkF s t = 0 → ∀ w', Below w.heap.size w w' → Calls Tryz.prog 45 #[stmV t A2 n2 c2 B2 m2 k2] w' (EncR w' 0 (wholeB t))) := Lib.hid fun g w' h => by
    obtain ⟨g1, g2, g3, g4, -⟩ := checkF_parts g
    have h1 := refEncode_any t A2 n2 c2 B2 m2 k2 w' (hl2.later h) (hp2.later h) ht
    unfold EncS encE encB at h1
    rw [if_pos g2, if_pos g4, if_pos g2, if_pos g4] at h1
    exact h1
  have HLN : Hid (checkF s t = 0 → (wholeB s).length ≤ 2000048 ∧ (wholeB t).length ≤ 2000048) := Lib.hid fun g => ⟨whole_len hs (checkF_parts g).2.2.1, whole_len ht (checkF_parts g).2.2.2.1⟩
  obtain ⟨SA, TA, VA, eS, eT, eV, h26⟩ := two26 s A n c B m k t A2 n2 c2 B2 m2 k2
  rw [eS] at HE1
  rw [eT] at HE2
  rw [eV] at HCK ⊢
  have H26 := Lib.hid h26
  clear eS eT eV hl hp hl2 hp2 hs ht h26
  have HEF : Hid (encF s t = if checkF s t = 0 then textB (wholeB s) ++ textB (wholeB t) else []) := Lib.hid rfl
  generalize encF s t = EB at HEF ⊢
  generalize checkF s t = E at HEF HCK HE1 HE2 HLN ⊢
  generalize wholeB s = US at HEF HE1 HLN
  generalize wholeB t = UT at HEF HE2 HLN
  have HX : Hid ((w.alloc (.cells VA 29)).heap[w.heap.size]? = some (.cells VA 29 (0, 0))) := Lib.hid (heap_alloc_new _ _)
  have HB : Hid (Below w.heap.size w (w.alloc (.cells VA 29))) := Lib.hid (one_new w _)
  have HZ : Hid (w.heap.size < (w.alloc (.cells VA 29)).heap.size) := Lib.hid (by simp)
  go_enter Tryz.func24, Tryz.ntmps24
  go_wp2_with (refine wpList_load_row rfl 29 (.tmp 1) rfl w.heap.size rfl 29 VA (0, 0) _ HX.out Tryz.underlying29 rfl H26.out.iF ?_)
  refine (HCK.out _ HB.out).mono ?_
  rintro e w1 ⟨rfl, hb⟩
  replace HX := Lib.hid ((hb.block _ HZ.out).trans HX.out); replace HB := Lib.hid (HB.out.trans (hb.mono HB.out.size)); replace HZ : Hid (w.heap.size < w1.heap.size) := Lib.hid (Nat.lt_of_lt_of_le HZ.out hb.size)
  clear hb
  by_cases h0 : E = 0
  · subst h0
    replace HE1 := Lib.hid (HE1.out rfl); replace HE2 := Lib.hid (HE2.out rfl); replace HLN := Lib.hid (HLN.out rfl); replace HEF : Hid (EB = textB US ++ textB UT) := Lib.hid (by rw [HEF.out, if_pos rfl])
    go_wp2_with (refine wpList_load_part rfl 27 (.tmp 15) rfl w.heap.size 0 rfl 29 VA SA (0, 0) _ HX.out Tryz.underlying27 rfl H26.out.iS (fun j hj => by have h := H26.out.c0 j (by rw [H26.out.z1] at hj; exact hj); first | exact h | (rw [Nat.zero_add]; exact h)) ?_)
    refine (HE1.out _ HB.out).mono ?_
    rintro e w2 ⟨Aa, ma, ca, rfl, hrow, hb⟩
    replace HX := Lib.hid ((hb.block _ HZ.out).trans HX.out); replace HB := Lib.hid (HB.out.trans (hb.mono HB.out.size)); replace HZ : Hid (w.heap.size < w2.heap.size) := Lib.hid (Nat.lt_of_lt_of_le HZ.out hb.size)
    have HRA := Lib.hid hrow; clear hb hrow
    go_wp2_with (refine wpList_load_part rfl 27 (.tmp 21) rfl w.heap.size 13 rfl 29 VA TA (0, 0) _ HX.out Tryz.underlying27 rfl H26.out.iT (fun j hj => by have h := H26.out.c1 j (by rw [H26.out.z2] at hj; exact hj); first | exact h | (rw [Nat.zero_add]; exact h)) ?_)
    refine (HE2.out _ HB.out).mono ?_
    rintro e w3 ⟨Ab, mb, cb, rfl, hrow, hb⟩
    replace HX := Lib.hid ((hb.block _ HZ.out).trans HX.out); replace HB := Lib.hid (HB.out.trans (hb.mono HB.out.size)); replace HZ : Hid (w.heap.size < w3.heap.size) := Lib.hid (Nat.lt_of_lt_of_le HZ.out hb.size)
    replace HRA := Lib.hid (HRA.out.later hb)
    have HRB := Lib.hid hrow; clear hb hrow
    go_wp2_with fail
    refine wp_region_grow (by kernel_rfl) Later Later.refl (fun _ _ _ => Later.trans) [6, 7] [([0, 1, 3, 4], 2), ([], 5)] (by kernel_rfl) (by kernel_rfl) (by kernel_rfl) ?_
    simp only [List.map_cons, List.map_nil, pick, List.getD_cons_zero, List.getD_cons_succ]
    replace HB := Lib.hid HB.out.drew; replace HRA := Lib.hid (HRA.out.later (Later.drew w3)); replace HRB := Lib.hid (HRB.out.later (Later.drew w3))
    clear HX HZ
    generalize w3.drew = w4 at *
    obtain ⟨TS1, hTS1⟩ : ∃ x, x = strOf US := ⟨_, rfl⟩
    have hcv1 := fun x => conv_fut HRA.out hTS1 x
    have HTB1 : Hid (TS1.data.toList = US) := Lib.hid (by rw [hTS1]; exact str_back _)
    have HTZ1 : Hid (TS1.size ≤ 2000048) := Lib.hid (by rw [hTS1, strOf_size]; exact HLN.out.1)
    clear hTS1
    obtain ⟨TS2, hTS2⟩ : ∃ x, x = strOf UT := ⟨_, rfl⟩
    have hcv2 := fun x => conv_fut HRB.out hTS2 x
    have HTB2 : Hid (TS2.data.toList = UT) := Lib.hid (by rw [hTS2]; exact str_back _)
    have HTZ2 : Hid (TS2.size ≤ 2000048) := Lib.hid (by rw [hTS2, strOf_size]; exact HLN.out.2)
    clear hTS2
    refine wpGrow_cons ?_
    repeat (go_big_quiet_step (fail))
    refine wpQuiet_nil ?_
    clear hcv1 hcv2 HRA HRB
    go_wp2_with fail
    refine (refText_any none 0 0 [] TS1 w4 (Row.nilRow _ _) (by omega) (by have := HTZ1.out; omega)).mono ?_
    rintro e w5 ⟨Ac, mc, cc, rfl, hmc, hrow, -, hb⟩
    have HRC : Hid (BRow w5 Ac mc cc (textB US)) := Lib.hid (by rw [HTB1.out, List.nil_append] at hrow; exact hrow)
    have HF : Hid (Later w4 w5) := Lib.hid hb; replace HB := Lib.hid (HB.out.trans (hb.mono HB.out.size))
    clear hb hrow hmc
    go_wp2_with fail
    refine pieceEnd_normal ⟨HF.out, ?_⟩
    clear HF
    refine wpGrow_cons ?_
    refine wpQuiet_nil ?_
    go_wp2_with fail
    refine (refText_any Ac mc cc (textB US) TS2 w5 HRC.out (by have h1 := HRC.out.len; rw [textB_len] at h1; have h2 := HLN.out.1; omega) (by have := HTZ2.out; omega)).mono ?_
    rintro e w6 ⟨Ad, md, cd, rfl, hmd, hrow, -, hb⟩
    have HRD : Hid (BRow w6 Ad md cd (textB US ++ textB UT)) := Lib.hid (by rw [HTB2.out] at hrow; exact hrow)
    have HF : Hid (Later w5 w6) := Lib.hid hb; replace HB := Lib.hid (HB.out.trans (hb.mono HB.out.size))
    clear hb hrow hmd
    go_wp2_with fail
    refine pieceEnd_normal ⟨HF.out, ?_⟩
    clear HF
    refine wpGrow_nil ?_
    repeat (go_big_quiet_step (fail))
    refine wpQuiet_nil ?_
    go_wp2
    go_ret2
    exact ⟨Ad, md, cd, rfl, by rw [HEF.out]; exact HRD.out, HB.out⟩
  · have g0 : (E == 0) = false := by simpa using h0
    go_wp2_with fail
    go_ret2
    exact ⟨none, 0, 0, rfl, by rw [HEF.out, if_neg h0]; exact Row.nilRow _ _, HB.out⟩
end Go.Proofs.YtkglgboncngpbaaGreatDoor
/- What was taken from bytes, written again, is those bytes: plain facts. -/
namespace Go.Proofs.YtkglgboncngpbaaGreatDoor
open Go.RowKit
theorem numB_inj : ∀ (k : Nat) (l m : List UInt8), l.length = k → m.length = k → numB l = numB m → l = m
  | 0, l, m, h1, h2, _ => by rw [List.eq_nil_of_length_eq_zero h1, List.eq_nil_of_length_eq_zero h2]
  | k + 1, l, m, h1, h2, h => by
    have hl : l ≠ [] := fun e => by rw [e] at h1; simp at h1
    have hm : m ≠ [] := fun e => by rw [e] at h2; simp at h2
    rw [← List.dropLast_concat_getLast hl, ← List.dropLast_concat_getLast hm, numB_snoc, numB_snoc] at h
    have a1 := (l.getLast hl).toNat_lt
    have a2 := (m.getLast hm).toNat_lt
    have e1 : numB l.dropLast = numB m.dropLast := by omega
    have e2 : (l.getLast hl).toNat = (m.getLast hm).toNat := by omega
    have e3 := numB_inj k l.dropLast m.dropLast (by simp [h1]) (by simp [h2]) e1
    have e4 : l.getLast hl = m.getLast hm := UInt8.toNat_inj.1 e2
    rw [← List.dropLast_concat_getLast hl, ← List.dropLast_concat_getLast hm, e3, e4]
theorem be8_int8 (l : List UInt8) (h : l.length = 8) : be8 (int8 l) = l := by
  refine numB_inj 8 _ _ (be8_len _) h ?_
  have h1 := numB_be8 (int8 l)
  have h2 := numB_lt 8 l h
  have h3 : int8 l % 18446744073709551616 = (numB l : Int) % 18446744073709551616 := by
    unfold int8 wrap64
    omega
  omega
theorem takeI_back {us : List UInt8} (h : (takeI us).2.2 = true) : us = be8 (takeI us).1 ++ (takeI us).2.1 := by
  unfold takeI at h ⊢
  split
  · rename_i h8
    show us = be8 (int8 (us.take 8)) ++ us.drop 8
    rw [be8_int8 _ (by rw [List.length_take]; omega), List.take_append_drop]
  · rename_i h8
    rw [if_neg h8] at h; cases h
theorem takeS_back {us : List UInt8} {most : Int} (h : (takeS us most).2.2 = true) : us = textB (takeS us most).1.data.toList ++ (takeS us most).2.1 := by
  unfold takeS at h ⊢
  split
  · rename_i hc
    have h1 := hc.len; have h2 := hc.nn; have h3 := hc.fit
    rw [Nat.div_one] at h3
    show us = textB ((us.drop 8).take (cnt us).toNat) ++ us.drop (8 + (cnt us).toNat)
    unfold textB
    rw [List.length_take, List.length_drop, Nat.min_eq_left (by omega), show (((cnt us).toNat : Nat) : Int) = int8 (us.take 8) from by rw [← cnt_nat hc]; rfl, be8_int8 _ (by rw [List.length_take]; omega), List.append_assoc, ← List.drop_drop, List.take_append_drop, List.take_append_drop]
  · rename_i hc
    rw [if_neg hc] at h; cases h
theorem listB_at (us : List UInt8) : ∀ k, 8 + 8 * k ≤ us.length → listB (intsAt us k) = (us.drop 8).take (8 * k)
  | 0, _ => by simp [intsAt, listB]
  | k + 1, h => by
    rw [intsAt_succ, listB_snoc, listB_at us k (by omega)]
    have h1 : be8 (intAt us k) = ((us.drop 8).drop (8 * k)).take 8 := by
      unfold intAt
      rw [List.drop_drop]
      exact be8_int8 _ (by rw [List.length_take, List.length_drop]; omega)
    rw [h1, show 8 * (k + 1) = 8 * k + 8 by omega, List.take_add]
theorem takeL_back {us : List UInt8} {most : Int} (h : (takeL us most).2.2 = true) : us = intsB (takeL us most).1 ++ (takeL us most).2.1 := by
  unfold takeL at h ⊢
  split
  · rename_i hc
    have h1 := hc.len; have h2 := hc.nn; have h3 := hc.fit
    have h4 : 8 * (cnt us).toNat ≤ us.length - 8 := by omega
    show us = intsB (intsAt us (cnt us).toNat) ++ us.drop (8 + 8 * (cnt us).toNat)
    unfold intsB
    rw [intsAt_len, listB_at us _ (by omega), show (((cnt us).toNat : Nat) : Int) = int8 (us.take 8) from by rw [← cnt_nat hc]; rfl, be8_int8 _ (by rw [List.length_take]; omega), List.append_assoc, ← List.drop_drop, List.take_append_drop, List.take_append_drop]
  · rename_i hc
    rw [if_neg hc] at h; cases h
theorem pin_back {us : List UInt8} (h : pinOk us = true) : us = pinBs (pinAt us) ++ pinRest us := by
  unfold pinOk at h
  simp only [Bool.and_eq_true] at h
  have h1 := takeI_back h.1.1
  have h2 := takeI_back h.1.2
  have h3 := takeS_back h.2
  unfold pinBs pinAt pinRest
  simp only
  have e : listB [(takeI us).1, (takeI (takeI us).2.1).1] = be8 (takeI us).1 ++ be8 (takeI (takeI us).2.1).1 := by simp [listB]
  rw [e]
  simp only [List.append_assoc]
  rw [← h3, ← h2, ← h1]
theorem pinsL_back (us : List UInt8) : ∀ j, (pinsL j us).2.2 = true → us = pinsBs (pinsL j us).1 ++ (pinsL j us).2.1
  | 0, _ => by show us = pinsBs [] ++ us; simp [pinsBs]
  | j + 1, h => by
    have h' : ((pinsL j us).2.2 && pinOk (pinsL j us).2.1) = true := h
    simp only [Bool.and_eq_true] at h'
    have h1 := pinsL_back us j h'.1
    have h2 := pin_back h'.2
    show us = pinsBs ((pinsL j us).1 ++ [pinAt (pinsL j us).2.1]) ++ pinRest (pinsL j us).2.1
    rw [pinsBs_snoc, List.append_assoc, ← h2, ← h1]
theorem takeP_back {us : List UInt8} (h : (takeP us).2.2 = true) : us = be8 ((takeP us).1.length : Int) ++ pinsBs (takeP us).1 ++ (takeP us).2.1 := by
  have h1 := takeP_ok h
  unfold takeP at h
  simp only [Bool.and_eq_true] at h
  have h2 := takeI_back h.1.1
  have h3 := pinsL_back _ _ h.2
  show us = be8 (((pinsL (takeI us).1.toNat (takeI us).2.1).1.length : Nat) : Int) ++ pinsBs (pinsL (takeI us).1.toNat (takeI us).2.1).1 ++ (pinsL (takeI us).1.toNat (takeI us).2.1).2.1
  rw [pinsL_len, show (((takeI us).1.toNat : Nat) : Int) = (takeI us).1 by omega, List.append_assoc, ← h3, ← h2]
/-- What was read of bytes, written again, is those bytes. -/
theorem parse_back {us : List UInt8} (h : (parse us).2.2 = true) (h0 : (parse us).2.1 = []) : wholeB (parse us).1 = us := by
  obtain ⟨X0, X1, X2, X3, X4, X5, X6, X7, X8, X9, X10, X11, X12, h0_, h1_, h2_, h3_, h4_, h5_, h6_, h7_, h8_, h9_, h10_, h11_, h12_, hp⟩ := parse_parts us
  rw [hp] at h h0 ⊢
  simp only [Bool.and_eq_true] at h h0
  obtain ⟨⟨⟨⟨⟨⟨⟨⟨⟨⟨⟨⟨k0, k1⟩, k2⟩, k3⟩, k4⟩, k5⟩, k6⟩, k7⟩, k8⟩, k9⟩, k10⟩, k11⟩, k12⟩ := h
  rw [h0_] at k0; have b0 := takeI_back k0; rw [← h0_] at b0
  rw [h1_] at k1; have b1 := takeI_back k1; rw [← h1_] at b1
  rw [h2_] at k2; have b2 := takeS_back k2; rw [← h2_] at b2
  rw [h3_] at k3; have b3 := takeI_back k3; rw [← h3_] at b3
  rw [h4_] at k4; have b4 := takeI_back k4; rw [← h4_] at b4
  rw [h5_] at k5; have b5 := takeI_back k5; rw [← h5_] at b5
  rw [h6_] at k6; have b6 := takeI_back k6; rw [← h6_] at b6
  rw [h7_] at k7; have b7 := takeI_back k7; rw [← h7_] at b7
  rw [h8_] at k8; have b8 := takeL_back k8; rw [← h8_] at b8
  rw [h9_] at k9; have b9 := takeP_back k9; rw [← h9_] at b9
  rw [h10_] at k10; have b10 := takeS_back k10; rw [← h10_] at b10
  rw [h11_] at k11; have b11 := takeI_back k11; rw [← h11_] at b11
  rw [h12_] at k12; have b12 := takeS_back k12; rw [← h12_] at b12
  unfold wholeB bodyB
  simp only [listB, List.flatMap_cons, List.flatMap_nil, List.append_nil, List.append_assoc]
  rw [h0, List.append_nil] at b12
  rw [List.append_assoc] at b9
  rw [← b12, ← b11, ← b10, ← b9, ← b8, ← b7, ← b6, ← b5, ← b4, ← b3, ← b2, ← b1, ← b0]
end Go.Proofs.YtkglgboncngpbaaGreatDoor
/- What the reference's Decode finds is what is read: plain facts. -/
namespace Go.Proofs.YtkglgboncngpbaaGreatDoor
open Go.RowKit
theorem dec_no {us : List UInt8} (h : (parse us).2.2 = false) : decOk us = false := by
  unfold decOk readOk; rw [h]; rfl
theorem dec_big {us : List UInt8} {X0 : Int × List UInt8 × Bool} {X1 : Int × List UInt8 × Bool} {X2 : ByteArray × List UInt8 × Bool} {X3 : Int × List UInt8 × Bool} {X4 : Int × List UInt8 × Bool} {X5 : Int × List UInt8 × Bool} {X6 : Int × List UInt8 × Bool} {X7 : Int × List UInt8 × Bool} {X8 : List Int × List UInt8 × Bool} {Y : Int × List UInt8 × Bool} (h0 : X0 = takeI us) (h1 : X1 = takeI X0.2.1) (h2 : X2 = takeS X1.2.1 32) (h3 : X3 = takeI X2.2.1) (h4 : X4 = takeI X3.2.1) (h5 : X5 = takeI X4.2.1) (h6 : X6 = takeI X5.2.1) (h7 : X7 = takeI X6.2.1) (h8 : X8 = takeL X7.2.1 64) (hY : Y = takeI X8.2.1) (h : 64 < Y.1) : decOk us = false := by
  have hP : (takeP X8.2.1).2.2 = false := by
    show ((takeI X8.2.1).2.2 && btw (takeI X8.2.1).1 0 64 && _) = false
    rw [← hY, show btw Y.1 0 64 = false by simp [btw]; omega]; simp
  refine dec_no ?_
  subst h8; subst h7; subst h6; subst h5; subst h4; subst h3; subst h2; subst h1; subst h0
  unfold parse
  simp only
  rw [hP]; simp
theorem dec_spec {us : List UInt8} {X0 : Int × List UInt8 × Bool} {X1 : Int × List UInt8 × Bool} {X2 : ByteArray × List UInt8 × Bool} {X3 : Int × List UInt8 × Bool} {X4 : Int × List UInt8 × Bool} {X5 : Int × List UInt8 × Bool} {X6 : Int × List UInt8 × Bool} {X7 : Int × List UInt8 × Bool} {X8 : List Int × List UInt8 × Bool} {Y : Int × List UInt8 × Bool} {PL : List PinD × List UInt8 × Bool} {Xb : ByteArray × List UInt8 × Bool} {Xk : Int × List UInt8 × Bool} {Xd : ByteArray × List UInt8 × Bool} {j : Nat} {okF : Bool}
    (h0 : X0 = takeI us) (h1 : X1 = takeI X0.2.1) (h2 : X2 = takeS X1.2.1 32) (h3 : X3 = takeI X2.2.1) (h4 : X4 = takeI X3.2.1) (h5 : X5 = takeI X4.2.1) (h6 : X6 = takeI X5.2.1) (h7 : X7 = takeI X6.2.1) (h8 : X8 = takeL X7.2.1 64) (hY : Y = takeI X8.2.1) (hPL : PL = pinsL j Y.2.1) (hb : Xb = takeS PL.2.1 4096) (hk : Xk = takeI Xb.2.1) (hd : Xd = takeS Xk.2.1 32)
    (hF : okF = (X0.2.2 && X1.2.2 && X2.2.2 && X3.2.2 && X4.2.2 && X5.2.2 && X6.2.2 && X7.2.2 && X8.2.2 && Y.2.2 && PL.2.2 && Xb.2.2 && Xk.2.2 && Xd.2.2)) (hj : j ≤ Y.1.toNat) (h64 : j ≤ 64) (hex : j = Y.1.toNat ∨ (X0.2.2 && X1.2.2 && X2.2.2 && X3.2.2 && X4.2.2 && X5.2.2 && X6.2.2 && X7.2.2 && X8.2.2 && Y.2.2 && PL.2.2) = false) :
    (okF = false → decOk us = false) ∧ (okF = true → (Xd.2.1.length ≠ 0 → decOk us = false) ∧ (Xd.2.1.length = 0 → (checkV ⟨X0.1, X1.1, X2.1, X3.1, X4.1, X5.1, X6.1, X7.1, X8.1, PL.1, Xb.1, Xk.1, Xd.1⟩ ≠ 0 → decOk us = false) ∧ (checkV ⟨X0.1, X1.1, X2.1, X3.1, X4.1, X5.1, X6.1, X7.1, X8.1, PL.1, Xb.1, Xk.1, Xd.1⟩ = 0 → (sealedB ⟨X0.1, X1.1, X2.1, X3.1, X4.1, X5.1, X6.1, X7.1, X8.1, PL.1, Xb.1, Xk.1, Xd.1⟩ = false → decOk us = false) ∧ (sealedB ⟨X0.1, X1.1, X2.1, X3.1, X4.1, X5.1, X6.1, X7.1, X8.1, PL.1, Xb.1, Xk.1, Xd.1⟩ = true →
      (wholeB ⟨X0.1, X1.1, X2.1, X3.1, X4.1, X5.1, X6.1, X7.1, X8.1, PL.1, Xb.1, Xk.1, Xd.1⟩ = us → decOk us = true ∧ decS us = ⟨X0.1, X1.1, X2.1, X3.1, X4.1, X5.1, X6.1, X7.1, X8.1, PL.1, Xb.1, Xk.1, Xd.1⟩) ∧ (wholeB ⟨X0.1, X1.1, X2.1, X3.1, X4.1, X5.1, X6.1, X7.1, X8.1, PL.1, Xb.1, Xk.1, Xd.1⟩ ≠ us → decOk us = false))))) := by
  have hparts : ∀ T : List PinD × List UInt8 × Bool, takeP X8.2.1 = T → (parse us).2.2 = (X0.2.2 && X1.2.2 && X2.2.2 && X3.2.2 && X4.2.2 && X5.2.2 && X6.2.2 && X7.2.2 && X8.2.2 && T.2.2 && (takeS T.2.1 4096).2.2 && (takeI (takeS T.2.1 4096).2.1).2.2 && (takeS (takeI (takeS T.2.1 4096).2.1).2.1 32).2.2) ∧ (parse us).2.1 = (takeS (takeI (takeS T.2.1 4096).2.1).2.1 32).2.1 ∧
      (parse us).1 = ⟨X0.1, X1.1, X2.1, X3.1, X4.1, X5.1, X6.1, X7.1, X8.1, T.1, (takeS T.2.1 4096).1, (takeI (takeS T.2.1 4096).2.1).1, (takeS (takeI (takeS T.2.1 4096).2.1).2.1 32).1⟩ := by
    rintro T rfl
    subst h8; subst h7; subst h6; subst h5; subst h4; subst h3; subst h2; subst h1; subst h0
    exact ⟨rfl, rfl, rfl⟩
  have hTP : takeP X8.2.1 = ((pinsL Y.1.toNat Y.2.1).1, (pinsL Y.1.toNat Y.2.1).2.1, Y.2.2 && btw Y.1 0 64 && (pinsL Y.1.toNat Y.2.1).2.2) := by subst hY; rfl
  have hpp := hparts _ hTP
  simp only at hpp
  by_cases he : j = Y.1.toNat
  · subst he
    rw [← hPL, ← hb, ← hk, ← hd] at hpp
    by_cases hn : 0 ≤ Y.1
    · have hbt : btw Y.1 0 64 = true := by simp [btw]; omega
      rw [hbt] at hpp
      have hok : (parse us).2.2 = okF := by
        rw [hpp.1, hF]; simp only [Bool.and_true, Bool.and_assoc]
      refine ⟨fun h => dec_no (hok.trans h), fun h => ?_⟩
      have hp : (parse us).2.2 = true := hok.trans h
      have hro : readOk us = decide (Xd.2.1.length = 0) := by unfold readOk; rw [hp, hpp.2.1]; rfl
      refine ⟨fun h0 => by unfold decOk; rw [hro, decide_eq_false h0]; rfl, fun h0 => ?_⟩
      have hr1 : readOk us = true := by rw [hro, decide_eq_true h0]
      have hrs : readS us = ⟨X0.1, X1.1, X2.1, X3.1, X4.1, X5.1, X6.1, X7.1, X8.1, PL.1, Xb.1, Xk.1, Xd.1⟩ := by unfold readS; rw [if_pos hr1, hpp.2.2]
      have hdo : decOk us = (decide (checkV ⟨X0.1, X1.1, X2.1, X3.1, X4.1, X5.1, X6.1, X7.1, X8.1, PL.1, Xb.1, Xk.1, Xd.1⟩ = 0) && sealedB ⟨X0.1, X1.1, X2.1, X3.1, X4.1, X5.1, X6.1, X7.1, X8.1, PL.1, Xb.1, Xk.1, Xd.1⟩) := by unfold decOk; rw [hr1, hrs]; rfl
      refine ⟨fun hc => by rw [hdo, decide_eq_false hc]; rfl, fun hc => ⟨fun hs => by rw [hdo, hs]; simp, fun hs => ?_⟩⟩
      have hd1 : decOk us = true := by rw [hdo, decide_eq_true hc, hs]; rfl
      have hw : wholeB ⟨X0.1, X1.1, X2.1, X3.1, X4.1, X5.1, X6.1, X7.1, X8.1, PL.1, Xb.1, Xk.1, Xd.1⟩ = us := by
        have := parse_back hp (by rw [hpp.2.1]; exact List.eq_nil_of_length_eq_zero h0)
        rw [hpp.2.2] at this; exact this
      exact ⟨fun _ => ⟨hd1, by unfold decS; rw [if_pos hd1, hrs]⟩, fun h => absurd hw h⟩
    · have hbt : btw Y.1 0 64 = false := by simp [btw]; omega
      have hpf : (parse us).2.2 = false := by rw [hpp.1, hbt]; simp
      have hdf := dec_no hpf
      refine ⟨fun _ => hdf, fun h => ⟨fun _ => hdf, fun _ => ⟨fun _ => hdf, fun _ => ⟨fun _ => hdf, fun _ => ⟨fun hw => ?_, fun _ => hdf⟩⟩⟩⟩⟩
      exfalso
      rw [h] at hF
      have hF := hF.symm
      simp only [Bool.and_eq_true] at hF
      obtain ⟨⟨⟨⟨⟨⟨⟨⟨⟨⟨⟨⟨⟨k0, k1⟩, k2⟩, k3⟩, k4⟩, k5⟩, k6⟩, k7⟩, k8⟩, k9⟩, k10⟩, k11⟩, k12⟩, k13⟩ := hF
      have hz : Y.1.toNat = 0 := by omega
      rw [hz] at hPL
      have hl : PL.1 = [] := by rw [hPL]; rfl
      rw [h0] at k0; have b0 := takeI_back k0; rw [← h0] at b0
      rw [h1] at k1; have b1 := takeI_back k1; rw [← h1] at b1
      rw [h2] at k2; have b2 := takeS_back k2; rw [← h2] at b2
      rw [h3] at k3; have b3 := takeI_back k3; rw [← h3] at b3
      rw [h4] at k4; have b4 := takeI_back k4; rw [← h4] at b4
      rw [h5] at k5; have b5 := takeI_back k5; rw [← h5] at b5
      rw [h6] at k6; have b6 := takeI_back k6; rw [← h6] at b6
      rw [h7] at k7; have b7 := takeI_back k7; rw [← h7] at b7
      rw [h8] at k8; have b8 := takeL_back k8; rw [← h8] at b8
      rw [hY] at k9; have b9 := takeI_back k9; rw [← hY] at b9
      have hyb : -9223372036854775808 ≤ Y.1 ∧ Y.1 ≤ 9223372036854775807 := by
        rw [hY]; unfold takeI; split
        · exact int8_bd _
        · exact ⟨by show (-9223372036854775808 : Int) ≤ 0; omega, by show (0 : Int) ≤ _; omega⟩
      unfold wholeB bodyB at hw
      simp only [hl, listB, pinsBs, List.flatMap_cons, List.flatMap_nil, List.append_nil, List.append_assoc, List.length_nil] at hw
      rw [b0, b1, b2, b3, b4, b5, b6, b7, b8, b9] at hw
      have hw2 := hw
      simp only [List.append_cancel_left_eq] at hw2
      have hw3 := List.append_inj_left hw2 (by rw [be8_len, be8_len])
      have := be8_inj _ _ (by omega) (by omega) hyb.1 hyb.2 hw3
      omega
  · have hno := hex.resolve_left he
    have hoF : okF = false := by
      rw [hF]
      generalize (X0.2.2 && X1.2.2 && X2.2.2 && X3.2.2 && X4.2.2 && X5.2.2 && X6.2.2 && X7.2.2 && X8.2.2 && Y.2.2 && PL.2.2) = z at hno ⊢
      subst hno; rfl
    have hpf : (parse us).2.2 = false := by
      rw [hpp.1]
      cases hP : PL.2.2 with
      | false =>
        have hPF : (pinsL j Y.2.1).2.2 = false := by rw [← hPL]; exact hP
        have := pinsL_no Y.2.1 hPF Y.1.toNat hj
        rw [this]; simp
      | true =>
        rw [hP, Bool.and_true] at hno
        generalize (X0.2.2 && X1.2.2 && X2.2.2 && X3.2.2 && X4.2.2 && X5.2.2 && X6.2.2 && X7.2.2 && X8.2.2) = z at hno ⊢
        cases z with
        | false => rfl
        | true => rw [Bool.true_and] at hno; rw [hno]; simp
    exact ⟨fun _ => dec_no hpf, fun h => by rw [hoF] at h; cases h⟩
end Go.Proofs.YtkglgboncngpbaaGreatDoor
/- What the reference takes from bytes lies in new memory; the walks of its reader. -/
namespace Go.Proofs.YtkglgboncngpbaaGreatDoor
open Go.RowKit
def RTookSn (w : World) (us : List UInt8) (k : Nat) (e : Ending) (w' : World) : Prop := ∃ A m c, e = .returned (.tuple #[.string (strOf ((us.drop 8).take k)), .slice A m c, .bool true]) ∧ m = us.length - (8 + k) ∧ BRow w' A m c (us.drop (8 + k)) ∧ New w w' A ∧ Below w.heap.size w w'
set_option maxHeartbeats 1000000 in
theorem refTakeText_new (A : Option Addr) (n c : Nat) (us : List UInt8) (most : Int) (k : Nat) (w : World) (hr : BRow w A n c us) (hnm : n ≤ 900000000) (hok : CountOk us most 1) (hk : cnt us = (k : Int)) :
    Calls Tryz.prog 63 #[.slice A n c, .int .i64 most] w (RTookSn w us k) := by
  have HR := Lib.hid hr; have HL := Lib.hid hr.len; have HOK := Lib.hid hok; have HK := Lib.hid hk
  have hkn : Hid (8 ≤ n ∧ k ≤ n - 8 ∧ (k : Int) ≤ most) := by
    have h1 := hok.len; have h2 := hok.fit; have h3 := hr.len; have h4 := hok.le
    rw [hk, h3, Nat.div_one] at h2; rw [h3] at h1; rw [hk] at h4; exact ⟨h1, by omega, h4⟩
  have hn8 : 8 ≤ n := hkn.out.1
  clear hr hok hk
  go_enter Tryz.func63, Tryz.ntmps63
  go_wp2_with fail
  refine (refTakeInt_yes A n c us w HR.out hn8 hnm).mono ?_
  rintro e w1 ⟨A1, m, c1, rfl, hm, hr1, -, hb1⟩
  rw [HL.out] at hm
  have hkm : k ≤ m := by have := hkn.out; omega
  rw [HK.out]
  have g1 : (decide (most < (k : Int))) = false := decide_eq_false (by have := hkn.out.2.2; omega)
  have g2 : (decide ((m : Int) < (k : Int))) = false := decide_eq_false (by omega)
  have g3 : (decide (m < k)) = false := decide_eq_false (by omega)
  have hs1 := fun w => run_slice_from (P := Tryz.prog) (t := 30) Tryz.underlying30 u8_size (A := A1) (n := m) (c := c1) (k := k) (i := (k : Int)) rfl hkm .i64 w
  have hs2 := fun w => run_slice_to (P := Tryz.prog) (t := 30) Tryz.underlying30 u8_size (k := k) hr1 (i := (k : Int)) rfl hkm .i64 w
  have hd := hr1.drop k hkm
  have hcv : ∀ x, (convert 30 9 (.slice A1 k c1)).run Tryz.prog (fut Later w1.drew x) = .ok (.string (strOf ((us.drop 8).take k))) (fut Later w1.drew x) := fun x =>
    run_conv_row (((hr1.take k hkm).later (Later.drew w1)).later (fut_ok Later.refl _ x)) Tryz.underlying30 Tryz.underlying5 Tryz.underlying9
  generalize dropA A1 c1 k 1 = A' at hs1 hd
  obtain ⟨t, ht⟩ : ∃ t, t = strOf ((us.drop 8).take k) := ⟨_, rfl⟩
  rw [← ht] at hcv
  have HT := Lib.hid ht; clear ht
  have hm9 : m - k ≤ 900000000 := by omega
  have HM := Lib.hid hm; have HD := Lib.hid hd; have HB1 := Lib.hid hb1; clear hm hr1 hb1 hd hkm
  go_wp2_with fail
  refine wp_region_grow (by kernel_rfl) Later Later.refl (fun _ _ _ => Later.trans) [8, 9, 10] [([0, 1, 2, 3, 4, 5, 6], 7)] (by kernel_rfl) (by kernel_rfl) (by kernel_rfl) ?_
  simp only [List.map_cons, List.map_nil, pick, List.getD_cons_zero, List.getD_cons_succ]
  refine wpGrow_cons ?_
  repeat (go_big_quiet_step (fail))
  refine wpQuiet_nil ?_
  go_wp2_with fail
  refine (rest_any A' (m - k) (c1 - k) _ w1.drew (HD.out.later (Later.drew w1)) hm9).mono ?_
  rintro e w2 ⟨A2, m2, c2, rfl, hm2, hr2, hn2, hb2⟩
  have HN2 := Lib.hid hn2; clear hn2
  have HM2 := Lib.hid hm2; have HR2 := Lib.hid hr2; have HB2 := Lib.hid hb2; clear hm2 hr2 hb2
  go_wp2_with fail
  refine pieceEnd_normal ⟨HB2.out, ?_⟩
  refine wpGrow_nil ?_
  repeat (go_big_quiet_step (fail))
  refine wpQuiet_nil ?_
  go_wp2
  go_ret3
  refine ⟨A2, m2, c2, by rw [← HT.out]; rfl, by rw [HM2.out, List.drop_drop, List.length_drop], ?_, HN2.out.from HB1.out.drew.size, HB1.out.drew.trans (HB2.out.mono HB1.out.size)⟩
  have h := HR2.out
  rw [List.drop_drop] at h
  exact h
def NewI (w : World) (R : Int × List UInt8 × Bool) (e : Ending) (w' : World) : Prop := ∃ A m c, e = .returned (.tuple #[.int .i64 R.1, .slice A m c, .bool R.2.2]) ∧ BRow w' A m c R.2.1 ∧ New w w' A ∧ Below w.heap.size w w'
def NewS (w : World) (R : ByteArray × List UInt8 × Bool) (e : Ending) (w' : World) : Prop := ∃ A m c, e = .returned (.tuple #[.string R.1, .slice A m c, .bool R.2.2]) ∧ BRow w' A m c R.2.1 ∧ New w w' A ∧ Below w.heap.size w w'
section
variable (A : Option Addr) (n c : Nat) (us : List UInt8) (most : Int) (w : World)
theorem refTakeI_new (hr : BRow w A n c us) (hn : n ≤ 900000000) : Calls Tryz.prog 93 #[.slice A n c] w (NewI w (takeI us)) := by
  by_cases h : 8 ≤ us.length
  · refine (refTakeInt_yes A n c us w hr (by rw [← hr.len]; exact h) hn).mono fun e w' ⟨A', m, c', he, _, h1, hN, h2⟩ => ⟨A', m, c', ?_, ?_, hN, h2⟩
    · unfold takeI; rw [if_pos h]; exact he
    · unfold takeI; rw [if_pos h]; exact h1
  · refine (refTakeInt_no A n c w (by rw [← hr.len]; omega)).mono fun e w' ⟨he, hw⟩ => ⟨none, 0, 0, ?_, ?_, (fun _ h => by cases h), ?_⟩
    · unfold takeI; rw [if_neg h]; exact he
    · unfold takeI; rw [if_neg h]; exact Row.nilRow _ _
    · subst hw; exact Below.refl _ _
theorem refTakeS_new (hr : BRow w A n c us) (hn : n ≤ 900000000) : Calls Tryz.prog 63 #[.slice A n c, .int .i64 most] w (NewS w (takeS us most)) := by
  by_cases h : CountOk us most 1
  · refine (refTakeText_new A n c us most _ w hr hn h (cnt_nat h)).mono fun e w' ⟨A', m, c', he, _, h1, hN, h2⟩ => ⟨A', m, c', ?_, ?_, hN, h2⟩
    · unfold takeS; rw [if_pos h]; exact he
    · unfold takeS; rw [if_pos h]; exact h1
  · refine (refTakeText_no A n c us most w hr hn h).mono fun e w' ⟨he, hw⟩ => ⟨none, 0, 0, ?_, ?_, (fun _ h => by cases h), hw⟩
    · unfold takeS; rw [if_neg h]; exact he
    · unfold takeS; rw [if_neg h]; exact Row.nilRow _ _
end
/-- The reference's reader in block D, with the bytes us left, and whether all went well. -/
def RRd (w : World) (D : Nat) (us : List UInt8) (ok : Bool) : Prop := ∃ A n c, w.heap[D]? = some (.cells #[.slice A n c, .bool ok] 117 (0, 0)) ∧ BRow w A n c us
def RReads (D : Nat) (w : World) (v : Value) (rest : List UInt8) (ok : Bool) (e : Ending) (w' : World) : Prop :=
  ∃ A m c, e = .returned v ∧ w'.heap[D]? = some (.cells #[.slice A m c, .bool ok] 117 (0, 0)) ∧ BRow w' A m c rest ∧ New w w' A ∧ But D w w'
theorem RRd.lt {w : World} {D : Nat} {us : List UInt8} {ok : Bool} (h : RRd w D us ok) : D < w.heap.size := by
  obtain ⟨A, n, c, h1, _⟩ := h; exact (Array.getElem?_eq_some_iff.1 h1).1
theorem RReads.rd {D : Nat} {w w' : World} {v : Value} {rest : List UInt8} {ok : Bool} {e : Ending} (h : RReads D w v rest ok e w') : RRd w' D rest ok := by
  obtain ⟨A, m, c, _, h1, h2, _, _⟩ := h; exact ⟨A, m, c, h1, h2⟩
theorem RRd.later {w w' : World} {D : Nat} {us : List UInt8} {ok : Bool} (h : RRd w D us ok) (hb : Below w.heap.size w w') : RRd w' D us ok := by
  obtain ⟨A, n, c, h1, h2⟩ := h
  exact ⟨A, n, c, (hb.block D (Array.getElem?_eq_some_iff.1 h1).1).trans h1, h2.later hb⟩
set_option maxHeartbeats 1000000 in
theorem refRdInt (D : Nat) (us : List UInt8) (ok : Bool) (w : World) (h : RRd w D us ok) (hn : us.length ≤ 900000) :
    Calls Tryz.prog 95 #[.pointer (some ⟨D, 0, none⟩)] w (RReads D w (.int .i64 (takeI us).1) (takeI us).2.1 (ok && (takeI us).2.2)) := by
  obtain ⟨A, n, c, hR, hr⟩ := h
  have hlen := hr.len
  have HT := Lib.hid (refTakeI_new A n c us w hr (by omega))
  have hc0 : w.cell? ⟨D, 0, none⟩ = some (.slice A n c) := by rw [cell_of_row _ _ _ _ _ _ hR]; rfl
  have hlt : D < w.heap.size := (Array.getElem?_eq_some_iff.1 hR).1
  have HR := Lib.hid hR; have HL := Lib.hid hlt; clear hR hr hlen hlt
  generalize takeI us = T at HT ⊢
  obtain ⟨v, rest, k⟩ := T
  go_enter Tryz.func95, Tryz.ntmps95
  go_wp2_with fail
  refine HT.out.mono ?_
  rintro e w1 ⟨A1, m1, c1, rfl, hr1, hn1, hb⟩
  have HR1 := Lib.hid ((hb.block D HL.out).trans HR.out); have HB := Lib.hid hb; have HX := Lib.hid hr1; have HN := Lib.hid hn1; clear hb hr1 hn1 hc0
  simp only
  have hc0 : w1.cell? ⟨D, 0, none⟩ = some (.slice A n c) := by rw [cell_of_row _ _ _ _ _ _ HR1.out]; rfl
  have hc1 : w1.cell? ⟨D, 1, none⟩ = some (.bool ok) := by rw [cell_of_row _ _ _ _ _ _ HR1.out]; rfl
  have hf0 : w1.frozen? ⟨D, 0, none⟩ = false := frozen_of_row _ _ _ _ _ HR1.out
  have hf1 : w1.frozen? ⟨D, 1, none⟩ = false := frozen_of_row _ _ _ _ _ HR1.out
  cases ok
  · go_wp2
    go_ret
    exact ⟨A1, m1, c1, rfl, heap_setCell_same _ _ _ _ _ _ (heap_setCell_same _ _ _ _ _ _ HR1.out), Row.but HX.out ((But.set _ _ _).trans (But.set _ _ _)) (fun ad hA _ => by have := (HN.out ad hA).1; have := HL.out; omega), fun ad hA => ⟨(HN.out ad hA).1, by rw [World.size_setCell, World.size_setCell]; exact (HN.out ad hA).2⟩, (But.of HB.out).trans ((But.set _ _ _).trans (But.set _ _ _))⟩
  · go_wp2
    go_ret
    exact ⟨A1, m1, c1, rfl, heap_setCell_same _ _ _ _ _ _ (heap_setCell_same _ _ _ _ _ _ HR1.out), Row.but HX.out ((But.set _ _ _).trans (But.set _ _ _)) (fun ad hA _ => by have := (HN.out ad hA).1; have := HL.out; omega), fun ad hA => ⟨(HN.out ad hA).1, by rw [World.size_setCell, World.size_setCell]; exact (HN.out ad hA).2⟩, (But.of HB.out).trans ((But.set _ _ _).trans (But.set _ _ _))⟩
set_option maxHeartbeats 1000000 in
theorem refRdText (D : Nat) (us : List UInt8) (ok : Bool) (most : Int) (w : World) (h : RRd w D us ok) (hn : us.length ≤ 900000) :
    Calls Tryz.prog 96 #[.pointer (some ⟨D, 0, none⟩), .int .i64 most] w (RReads D w (.string (takeS us most).1) (takeS us most).2.1 (ok && (takeS us most).2.2)) := by
  obtain ⟨A, n, c, hR, hr⟩ := h
  have hlen := hr.len
  have HT := Lib.hid (refTakeS_new A n c us most w hr (by omega))
  have hc0 : w.cell? ⟨D, 0, none⟩ = some (.slice A n c) := by rw [cell_of_row _ _ _ _ _ _ hR]; rfl
  have hlt : D < w.heap.size := (Array.getElem?_eq_some_iff.1 hR).1
  have HR := Lib.hid hR; have HL := Lib.hid hlt; clear hR hr hlen hlt
  generalize takeS us most = T at HT ⊢
  obtain ⟨v, rest, k⟩ := T
  go_enter Tryz.func96, Tryz.ntmps96
  go_wp2_with fail
  refine HT.out.mono ?_
  rintro e w1 ⟨A1, m1, c1, rfl, hr1, hn1, hb⟩
  have HR1 := Lib.hid ((hb.block D HL.out).trans HR.out); have HB := Lib.hid hb; have HX := Lib.hid hr1; have HN := Lib.hid hn1; clear hb hr1 hn1 hc0
  simp only
  have hc0 : w1.cell? ⟨D, 0, none⟩ = some (.slice A n c) := by rw [cell_of_row _ _ _ _ _ _ HR1.out]; rfl
  have hc1 : w1.cell? ⟨D, 1, none⟩ = some (.bool ok) := by rw [cell_of_row _ _ _ _ _ _ HR1.out]; rfl
  have hf0 : w1.frozen? ⟨D, 0, none⟩ = false := frozen_of_row _ _ _ _ _ HR1.out
  have hf1 : w1.frozen? ⟨D, 1, none⟩ = false := frozen_of_row _ _ _ _ _ HR1.out
  cases ok
  · go_wp2
    go_ret
    exact ⟨A1, m1, c1, rfl, heap_setCell_same _ _ _ _ _ _ (heap_setCell_same _ _ _ _ _ _ HR1.out), Row.but HX.out ((But.set _ _ _).trans (But.set _ _ _)) (fun ad hA _ => by have := (HN.out ad hA).1; have := HL.out; omega), fun ad hA => ⟨(HN.out ad hA).1, by rw [World.size_setCell, World.size_setCell]; exact (HN.out ad hA).2⟩, (But.of HB.out).trans ((But.set _ _ _).trans (But.set _ _ _))⟩
  · go_wp2
    go_ret
    exact ⟨A1, m1, c1, rfl, heap_setCell_same _ _ _ _ _ _ (heap_setCell_same _ _ _ _ _ _ HR1.out), Row.but HX.out ((But.set _ _ _).trans (But.set _ _ _)) (fun ad hA _ => by have := (HN.out ad hA).1; have := HL.out; omega), fun ad hA => ⟨(HN.out ad hA).1, by rw [World.size_setCell, World.size_setCell]; exact (HN.out ad hA).2⟩, (But.of HB.out).trans ((But.set _ _ _).trans (But.set _ _ _))⟩
end Go.Proofs.YtkglgboncngpbaaGreatDoor
