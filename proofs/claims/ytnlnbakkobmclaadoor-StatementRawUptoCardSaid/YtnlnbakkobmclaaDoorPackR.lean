import Derived.Test.YtnlnbakkobmclaaDoorPackD
import Derived.Test.YtnlnbakkobmclaaDoorRefSame
import Derived.Test.YtnlnbakkobmclaaDoorPackA
import Derived.Test.YtnlnbakkobmclaaDoorRow
import Derived.ProofKit
import Derived.OpenShut
import Derived.Carry
import Derived.Handed
import Derived.ChangeMaps5
import Derived.Test.YtnlnbakkobmclaaDoorBytes
import Derived.Test.YtnlnbakkobmclaaDoorRows
import Derived.Deep.Slices
import Derived.Deep.Fields
import Derived.ChangeSame
import Derived.Test.YtnlnbakkobmclaaDoorCards
import Derived.Test.YtnlnbakkobmclaaDoorTie
import Derived.LaidMore
import Derived.Stop.Joined
import Derived.JoinedCond
import Derived.SevenTiedAt
import Derived.Deep.DeepHandedRow
import Derived.Lib.LaidTab
/- The walk of trustflowlaw03.read. -/
namespace Go.Proofs.YtnlnbakkobmclaaDoor
open Go.RowKit
set_option maxRecDepth 100000 in
set_option maxHeartbeats 4000000 in
theorem readLaw_any (A : Option Addr) (n c : Nat) (us : List UInt8) (w : World) (hr : BRow w A n c us) (hn : n ≤ 900000) (hR : Rounds w) :
    Calls Tryd.prog 10 #[.slice A n c] w (SaysL (.bool true) w) := by
  have hlen : us.length ≤ 900000 := by rw [hr.len]; exact hn
  have H1 : Hid (∀ w', Below w.heap.size w w' → Calls Tryd.prog 24 #[.slice A n c] w' (DecR w' (decS us) (decE us))) := Lib.hid fun w' h => decode_any A n c us w' (hr.later h) hn (hR.later h)
  have H2 : Hid (∀ w', Below w.heap.size w w' → Calls Tryd.prog 33 #[.slice A n c] w' (DecR w' (decS us) (decE us))) := Lib.hid fun w' h => refDecode_any A n c us w' (hr.later h) hn
  have H3 : Hid (∀ w' A1 n1 c1 B1 m1 k1 A2 n2 c2 B2 m2 k2, IRow w' A1 n1 c1 (decS us).list → PRow w' B1 m1 k1 (decS us).pins → IRow w' A2 n2 c2 (decS us).list → PRow w' B2 m2 k2 (decS us).pins → Calls Tryd.prog 22 #[stmV (decS us) A1 n1 c1 B1 m1 k1, stmV (decS us) A2 n2 c2 B2 m2 k2] w' (SaysL (.bool true) w')) :=
    Lib.hid fun w' A1 n1 c1 B1 m1 k1 A2 n2 c2 B2 m2 k2 h1 h2 h3 h4 => by
      have hs : (decS us).list.length ≤ 64 ∧ (decS us).pins.length ≤ 64 := by
        unfold decS readS
        by_cases ho : decOk us = true
        · rw [if_pos ho]
          have hk : readOk us = true := by unfold decOk at ho; simp only [Bool.and_eq_true] at ho; exact ho.1.1
          rw [if_pos hk]
          have h2 : (parse us).2.2 = true := by unfold readOk at hk; simp only [Bool.and_eq_true] at hk; exact hk.1
          exact (parse_small h2).2
        · rw [if_neg ho]; exact ⟨by decide, by decide⟩
      have := refSame_any (decS us) A1 n1 c1 B1 m1 k1 (decS us) A2 n2 c2 B2 m2 k2 w' h1 h2 h3 h4 (by rw [← h1.len]; omega) (by rw [← h2.len]; omega)
      rw [sameS_self] at this; exact this
  clear hr hn hR hlen
  generalize decS us = s at H1 H2 H3
  generalize decE us = E at H1 H2
  obtain ⟨author, number, prev, time, kind, a, b, cc, list, pins, body, key, dig⟩ := s
  go_enter Tryd.func10, Tryd.ntmps10
  go_wp2_with fail
  refine (H1.out _ (Below.refl _ _)).mono ?_
  rintro e w1 ⟨A1, n1, c1, B1, m1, k1, rfl, hl, hp, hb⟩
  unfold stmV at H3 ⊢
  simp only at hl hp H3
  have HL1 := Lib.hid (hl.later (one_new w1 (.cells #[.int .i64 author, .int .i64 number, .string prev, .int .i64 time, .int .i64 kind, .int .i64 a, .int .i64 b, .int .i64 cc, .slice A1 n1 c1, .slice B1 m1 k1, .string body, .int .i64 key, .string dig] 27))); have HP1 := Lib.hid (hp.later (one_new w1 (.cells #[.int .i64 author, .int .i64 number, .string prev, .int .i64 time, .int .i64 kind, .int .i64 a, .int .i64 b, .int .i64 cc, .slice A1 n1 c1, .slice B1 m1 k1, .string body, .int .i64 key, .string dig] 27))); have HB1 := Lib.hid (hb.trans ((one_new w1 (.cells #[.int .i64 author, .int .i64 number, .string prev, .int .i64 time, .int .i64 kind, .int .i64 a, .int .i64 b, .int .i64 cc, .slice A1 n1 c1, .slice B1 m1 k1, .string body, .int .i64 key, .string dig] 27)).mono hb.size))
  have HX1 := Lib.hid (heap_alloc_new w1 (.cells #[.int .i64 author, .int .i64 number, .string prev, .int .i64 time, .int .i64 kind, .int .i64 a, .int .i64 b, .int .i64 cc, .slice A1 n1 c1, .slice B1 m1 k1, .string body, .int .i64 key, .string dig] 27))
  have HZ1 : Hid (w1.heap.size < (w1.alloc (.cells #[.int .i64 author, .int .i64 number, .string prev, .int .i64 time, .int .i64 kind, .int .i64 a, .int .i64 b, .int .i64 cc, .slice A1 n1 c1, .slice B1 m1 k1, .string body, .int .i64 key, .string dig] 27)).heap.size) := Lib.hid (by simp)
  clear hl hp hb
  go_wp2_with fail
  refine (H2.out _ HB1.out).mono ?_
  generalize w1.alloc (.cells #[.int .i64 author, .int .i64 number, .string prev, .int .i64 time, .int .i64 kind, .int .i64 a, .int .i64 b, .int .i64 cc, .slice A1 n1 c1, .slice B1 m1 k1, .string body, .int .i64 key, .string dig] 27) = y1 at HL1 HP1 HB1 HX1 HZ1 ⊢
  obtain ⟨g1, hg1⟩ : ∃ g, g = w1.heap.size := ⟨_, rfl⟩
  rw [← hg1] at HX1 HZ1 ⊢
  clear hg1
  rintro e w2 ⟨A2, n2, c2, B2, m2, k2, rfl, hl, hp, hb⟩
  unfold stmV
  simp only at hl hp
  have hx1 := (hb.block g1 HZ1.out).trans HX1.out
  have hz1 : g1 < w2.heap.size := Nat.lt_of_lt_of_le HZ1.out hb.size
  have hn2 := one_new w2 (.cells #[.int .i64 author, .int .i64 number, .string prev, .int .i64 time, .int .i64 kind, .int .i64 a, .int .i64 b, .int .i64 cc, .slice A2 n2 c2, .slice B2 m2 k2, .string body, .int .i64 key, .string dig] 27)
  have HX2 := Lib.hid ((hn2.block g1 hz1).trans hx1)
  have HY2 := Lib.hid (heap_alloc_new w2 (.cells #[.int .i64 author, .int .i64 number, .string prev, .int .i64 time, .int .i64 kind, .int .i64 a, .int .i64 b, .int .i64 cc, .slice A2 n2 c2, .slice B2 m2 k2, .string body, .int .i64 key, .string dig] 27))
  have HL2 := Lib.hid (hl.later hn2); have HP2 := Lib.hid (hp.later hn2); have HB2 := Lib.hid ((HB1.out.trans (hb.mono HB1.out.size)).trans (hn2.mono (Nat.le_trans HB1.out.size hb.size)))
  have HL3 := Lib.hid (HL1.out.later (hb.trans (hn2.mono hb.size))); have HP3 := Lib.hid (HP1.out.later (hb.trans (hn2.mono hb.size)))
  clear hl hp hb hx1 hz1 hn2 HL1 HP1 HB1 HX1 HZ1
  obtain ⟨hc0, hc1, hc2, hc3, hc4, hc5, hc6, hc7, hc8, hc9, hc10, hc11, hc12⟩ := stm_cells (A := A1) (n := n1) (c := c1) (B := B1) (m := m1) (k := k1) (s := ⟨author, number, prev, time, kind, a, b, cc, list, pins, body, key, dig⟩) HX2.out
  obtain ⟨hd0, hd1, hd2, hd3, hd4, hd5, hd6, hd7, hd8, hd9, hd10, hd11, hd12⟩ := stm_cells (A := A2) (n := n2) (c := c2) (B := B2) (m := m2) (k := k2) (s := ⟨author, number, prev, time, kind, a, b, cc, list, pins, body, key, dig⟩) HY2.out
  go_wp2_with fail
  refine (H3.out _ _ _ _ _ _ _ _ _ _ _ _ _ HL3.out HP3.out HL2.out HP2.out).mono ?_
  rintro e w3 ⟨rfl, hb⟩
  have HB3 := Lib.hid (HB2.out.trans (hb.mono HB2.out.size)); clear hb
  go_wp2
  go_ret
  exact ⟨rfl, HB3.out⟩
end Go.Proofs.YtnlnbakkobmclaaDoor
/- The walk of the law StatementRaw. -/
namespace Go.Proofs.YtnlnbakkobmclaaDoor
open Go.RowKit
theorem light_small {s : Stm} (h : lightB s = true) (hp : (pinsBs s.pins).length ≤ 24 * s.pins.length + 1100000) : Small s := by
  unfold lightB at h
  simp only [Bool.and_eq_true, decide_eq_true_eq] at h
  obtain ⟨⟨⟨⟨h1, h2⟩, h3⟩, h4⟩, h5⟩ := h
  exact ⟨by omega, by omega, by omega, by omega, by omega, by omega⟩
set_option maxRecDepth 100000 in
set_option maxHeartbeats 4000000 in
theorem raw_any (s : Stm) (A : Option Addr) (n c : Nat) (B : Option Addr) (m k : Nat) (o : Stm) (A2 : Option Addr) (n2 c2 : Nat) (B2 : Option Addr) (m2 k2 : Nat) (A3 : Option Addr) (n3 c3 : Nat) (us : List UInt8) (w : World)
    (hl : IRow w A n c s.list) (hp : PRow w B m k s.pins) (hl2 : IRow w A2 n2 c2 o.list) (hp2 : PRow w B2 m2 k2 o.pins) (hb3 : BRow w A3 n3 c3 us) (hz : (pinsBs s.pins).length ≤ 24 * s.pins.length + 1100000) (hr : Rounds w) :
    Calls Tryd.prog 3 #[stmV s A n c B m k, stmV o A2 n2 c2 B2 m2 k2, .slice A3 n3 c3] w (SaysL (.bool true) w) := by
  have HSM : Hid (lightB s = true → Small s) := Lib.hid fun h => light_small h hz
  have HG1 : Hid (∀ w', Below w.heap.size w w' → Calls Tryd.prog 6 #[stmV s A n c B m k] w' (SaysL (.bool (lightB s)) w')) := Lib.hid fun w' h => lightS_any s A n c B m k w' hl.len hp.len
  have HG2 : Hid (∀ w', Below w.heap.size w w' → Calls Tryd.prog 6 #[stmV o A2 n2 c2 B2 m2 k2] w' (SaysL (.bool (lightB o)) w')) := Lib.hid fun w' h => lightS_any o A2 n2 c2 B2 m2 k2 w' hl2.len hp2.len
  have HAW : Hid (∀ w', Below w.heap.size w w' → Calls Tryd.prog 7 #[] w' (SaysL (.bool true) w')) := Lib.hid fun w' h => awake_any w' (hr.later h)
  have HA1 : Hid (lightB s = true → ∀ w', Below w.heap.size w w' → Calls Tryd.prog 8 #[stmV s A n c B m k, stmV o A2 n2 c2 B2 m2 k2] w' (SaysL (.bool true) w')) := Lib.hid fun g w' h => agree_any s A n c B m k o A2 n2 c2 B2 m2 k2 w' (hl.later h) (hp.later h) (hl2.later h) (hp2.later h) (HSM.out g) (hr.later h)
  obtain ⟨SS, hSS⟩ : ∃ SS, SS = sealOf s := ⟨_, rfl⟩
  have HSE : Hid (lightB s = true → ∀ w', Below w.heap.size w w' → Calls Tryd.prog 9 #[stmV s A n c B m k] w' (GivesS w' SS)) := Lib.hid fun g w' h => by rw [hSS]; exact refSeal_any s A n c B m k w' (hl.later h) (hp.later h) (HSM.out g)
  have HA2 : Hid (lightB s = true → ∀ w', Below w.heap.size w w' → ∀ A4 n4 c4 B4 m4 k4, IRow w' A4 n4 c4 SS.list → PRow w' B4 m4 k4 SS.pins → Calls Tryd.prog 8 #[stmV SS A4 n4 c4 B4 m4 k4, stmV s A n c B m k] w' (SaysL (.bool true) w')) := Lib.hid fun g w' h A4 n4 c4 B4 m4 k4 h1 h2 => agree_any SS A4 n4 c4 B4 m4 k4 s A n c B m k w' h1 h2 (hl.later h) (hp.later h) (by rw [hSS]; exact seal_small (HSM.out g)) (hr.later h)
  have HRD : Hid (n3 ≤ 500 → ∀ w', Below w.heap.size w w' → Calls Tryd.prog 10 #[.slice A3 n3 c3] w' (SaysL (.bool true) w')) := Lib.hid fun g w' h => readLaw_any A3 n3 c3 us w' (hb3.later h) (by omega) (hr.later h)
  clear hl hp hl2 hp2 hb3 hr hz HSM hSS
  generalize lightB s = ls at HG1 HA1 HSE HA2
  generalize lightB o = lo at HG2
  obtain ⟨author, number, prev, time, kind, a, b, cc, list, pins, body, key, dig⟩ := s
  obtain ⟨y0, y1, y2, y3, y4, y5, y6, y7, y8, y9, y10, y11, y12⟩ := o
  have eS : stmV ⟨author, number, prev, time, kind, a, b, cc, list, pins, body, key, dig⟩ A n c B m k = .agg #[.int .i64 author, .int .i64 number, .string prev, .int .i64 time, .int .i64 kind, .int .i64 a, .int .i64 b, .int .i64 cc, .slice A n c, .slice B m k, .string body, .int .i64 key, .string dig] := rfl
  have eO : stmV ⟨y0, y1, y2, y3, y4, y5, y6, y7, y8, y9, y10, y11, y12⟩ A2 n2 c2 B2 m2 k2 = .agg #[.int .i64 y0, .int .i64 y1, .string y2, .int .i64 y3, .int .i64 y4, .int .i64 y5, .int .i64 y6, .int .i64 y7, .slice A2 n2 c2, .slice B2 m2 k2, .string y10, .int .i64 y11, .string y12] := rfl
  rw [eS] at HG1 HSE HA1 ⊢
  rw [eO] at HG2 HA1 ⊢
  simp only [eS] at HA2
  clear eS eO
  have HT := Lib.hid (two_new w (.cells #[.int .i64 author, .int .i64 number, .string prev, .int .i64 time, .int .i64 kind, .int .i64 a, .int .i64 b, .int .i64 cc, .slice A n c, .slice B m k, .string body, .int .i64 key, .string dig] 27) (.cells #[.int .i64 y0, .int .i64 y1, .string y2, .int .i64 y3, .int .i64 y4, .int .i64 y5, .int .i64 y6, .int .i64 y7, .slice A2 n2 c2, .slice B2 m2 k2, .string y10, .int .i64 y11, .string y12] 27))
  go_enter Tryd.func3, Tryd.ntmps3
  obtain ⟨hc0, hc1, hc2, hc3, hc4, hc5, hc6, hc7, hc8, hc9, hc10, hc11, hc12⟩ := stm_cells (A := A) (n := n) (c := c) (B := B) (m := m) (k := k) (s := ⟨author, number, prev, time, kind, a, b, cc, list, pins, body, key, dig⟩) HT.out.2.1
  go_wp2_with fail
  clear hc0 hc1 hc2 hc3 hc4 hc5 hc6 hc7 hc8 hc9 hc10 hc11 hc12
  refine (HG1.out _ HT.out.1).mono ?_
  rintro e w1 ⟨rfl, hb⟩
  replace HT := Lib.hid (HT.out.later hb); clear hb
  cases ls
  · go_wp2_with fail
    refine (HAW.out _ HT.out.1).mono ?_
    rintro e w9 ⟨rfl, hb⟩
    replace HT := Lib.hid (HT.out.later hb); clear hb
    go_wp2
    go_ret
    exact ⟨rfl, HT.out.1⟩
  replace HA1 := Lib.hid (HA1.out rfl); replace HA2 := Lib.hid (HA2.out rfl); replace HSE := Lib.hid (HSE.out rfl)
  obtain ⟨hc0, hc1, hc2, hc3, hc4, hc5, hc6, hc7, hc8, hc9, hc10, hc11, hc12⟩ := stm_cells (A := A2) (n := n2) (c := c2) (B := B2) (m := m2) (k := k2) (s := ⟨y0, y1, y2, y3, y4, y5, y6, y7, y8, y9, y10, y11, y12⟩) HT.out.2.2.1
  go_wp2_with fail
  clear hc0 hc1 hc2 hc3 hc4 hc5 hc6 hc7 hc8 hc9 hc10 hc11 hc12
  refine (HG2.out _ HT.out.1).mono ?_
  rintro e w2 ⟨rfl, hb⟩
  replace HT := Lib.hid (HT.out.later hb); clear hb
  cases lo
  · go_wp2_with fail
    refine (HAW.out _ HT.out.1).mono ?_
    rintro e w9 ⟨rfl, hb⟩
    replace HT := Lib.hid (HT.out.later hb); clear hb
    go_wp2
    go_ret
    exact ⟨rfl, HT.out.1⟩
  by_cases h5 : 500 < n3
  · go_wp2_with fail
    refine (HAW.out _ HT.out.1).mono ?_
    rintro e w9 ⟨rfl, hb⟩
    replace HT := Lib.hid (HT.out.later hb); clear hb
    go_wp2
    go_ret
    exact ⟨rfl, HT.out.1⟩
  replace HRD := Lib.hid (HRD.out (by omega))
  go_wp2_with fail
  refine wp_region_grow (by kernel_rfl) Later Later.refl (fun _ _ _ => Later.trans) [15, 16] [([], 0), ([1, 2, 3], 4), ([5, 6, 7, 9], 8), ([], 10), ([11, 12, 13], 14)] (by kernel_rfl) (by kernel_rfl) (by kernel_rfl) ?_
  simp only [List.map_cons, List.map_nil, pick, List.getD_cons_zero, List.getD_cons_succ]
  replace HT := Lib.hid (HT.out.later (Later.drew w2))
  generalize w2.drew = w3 at HT ⊢
  refine wpGrow_cons ?_
  refine wpQuiet_nil ?_
  go_wp2_with fail
  refine (HAW.out _ HT.out.1).mono ?_
  rintro e w4 ⟨rfl, hb⟩
  have HF : Hid (Later w3 w4) := Lib.hid hb; replace HT := Lib.hid (HT.out.later hb); clear hb
  go_wp2_with fail
  refine pieceEnd_normal ⟨HF.out, ?_⟩
  clear HF
  refine wpGrow_cons ?_
  obtain ⟨hf0, hf1, hf2, hf3, hf4, hf5, hf6, hf7, hf8, hf9, hf10, hf11, hf12⟩ := stm_futs (F := Later) Later.refl (A := A) (n := n) (c := c) (B := B) (m := m) (k := k) (s := ⟨author, number, prev, time, kind, a, b, cc, list, pins, body, key, dig⟩) (W := w4) (fun w' h => h.block _ (by have := HT.out.2.2.2; omega)) HT.out.2.1
  obtain ⟨hg0, hg1, hg2, hg3, hg4, hg5, hg6, hg7, hg8, hg9, hg10, hg11, hg12⟩ := stm_futs (F := Later) Later.refl (A := A2) (n := n2) (c := c2) (B := B2) (m := m2) (k := k2) (s := ⟨y0, y1, y2, y3, y4, y5, y6, y7, y8, y9, y10, y11, y12⟩) (W := w4) (fun w' h => h.block _ (by have := HT.out.2.2.2; omega)) HT.out.2.2.1
  repeat (go_big_quiet_step (fail))
  refine wpQuiet_nil ?_
  clear hf0 hf1 hf2 hf3 hf4 hf5 hf6 hf7 hf8 hf9 hf10 hf11 hf12
  clear hg0 hg1 hg2 hg3 hg4 hg5 hg6 hg7 hg8 hg9 hg10 hg11 hg12
  go_wp2_with fail
  refine (HA1.out _ HT.out.1).mono ?_
  rintro e w5 ⟨rfl, hb⟩
  have HF : Hid (Later w4 w5) := Lib.hid hb; replace HT := Lib.hid (HT.out.later hb); clear hb
  go_wp2_with fail
  refine pieceEnd_normal ⟨HF.out, ?_⟩
  clear HF
  refine wpGrow_cons ?_
  obtain ⟨hf0, hf1, hf2, hf3, hf4, hf5, hf6, hf7, hf8, hf9, hf10, hf11, hf12⟩ := stm_futs (F := Later) Later.refl (A := A) (n := n) (c := c) (B := B) (m := m) (k := k) (s := ⟨author, number, prev, time, kind, a, b, cc, list, pins, body, key, dig⟩) (W := w5) (fun w' h => h.block _ (by have := HT.out.2.2.2; omega)) HT.out.2.1
  repeat (go_big_quiet_step (fail))
  refine wpQuiet_nil ?_
  clear hf0 hf1 hf2 hf3 hf4 hf5 hf6 hf7 hf8 hf9 hf10 hf11 hf12
  go_wp2_with fail
  refine (HSE.out _ HT.out.1).mono ?_
  rintro e w6 ⟨Ae, ne, ce, Be, me, ke, rfl, hle, hpe, -, -, hb⟩
  have HLe := Lib.hid hle; have HPe := Lib.hid hpe; clear hle hpe
  have HF : Hid (Later w5 w6) := Lib.hid hb; replace HT := Lib.hid (HT.out.later hb); clear hb
  go_wp2_with fail
  refine pieceEnd_normal ⟨HF.out, ?_⟩
  clear HF
  refine wpGrow_cons ?_
  refine wpQuiet_nil ?_
  go_wp2_with fail
  refine (HA2.out _ HT.out.1 _ _ _ _ _ _ HLe.out HPe.out).mono ?_
  rintro e w7 ⟨rfl, hb⟩
  have HF : Hid (Later w6 w7) := Lib.hid hb; replace HT := Lib.hid (HT.out.later hb); clear hb
  go_wp2_with fail
  refine pieceEnd_normal ⟨HF.out, ?_⟩
  clear HF
  clear HLe HPe
  refine wpGrow_cons ?_
  repeat (go_big_quiet_step (fail))
  refine wpQuiet_nil ?_
  go_wp2_with fail
  refine (HRD.out _ HT.out.1).mono ?_
  rintro e w8 ⟨rfl, hb⟩
  have HF : Hid (Later w7 w8) := Lib.hid hb; replace HT := Lib.hid (HT.out.later hb); clear hb
  go_wp2_with fail
  refine pieceEnd_normal ⟨HF.out, ?_⟩
  clear HF
  refine wpGrow_nil ?_
  repeat (go_big_quiet_step (fail))
  refine wpQuiet_nil ?_
  go_wp2
  go_ret
  exact ⟨rfl, HT.out.1⟩
end Go.Proofs.YtnlnbakkobmclaaDoor
/- What a law's arguments are as rows of cells; what is asked of them behind the call. Plain facts over any program. -/
namespace Go.Proofs.YtnlnbakkobmclaaDoor
open Go.ChangeShapes Go.WideShapes Go.ChangeAt Go.RowKit
section
variable {H : Type} {enc : TypeId × Value → H} {P : Program} {W W' : World}
/-- A slice of numbers of one kind that came in. -/
theorem open_nums {t e : TypeId} {k : IntKind} (ht : P.underlying t = some (.slice e)) (he : P.underlying e = some (.int k)) (hc : P.cellsOf e = 1) {base : Nat} {v : Value} {d : DataW H} {p : List MemPlace}
    (hval : Value.okWide P W .any base t v) (h : DataW.Trod enc P W 0 (fun _ => true) true t v d p) :
    ∃ (A : Option Addr) (n c : Nat) (zs : List Int), v = .slice A n c ∧ zs.length = n ∧ Row W A n c 1 (zs.map (Value.int k)) ∧ c ≤ maxLen ∧ ∀ z ∈ zs, (Lit.int k z).wf = true := by
  obtain ⟨a1, len, cap, rfl⟩ := okWide_slice ht hval
  obtain ⟨fuel, hf⟩ := h
  rcases open_ints ht he hc hf with ⟨hcs, hx⟩ | ⟨a, len', cap', zs, hcs, _, hl, hm, hz, hx, hcell, hwz⟩
  · simp [Value.cells] at hcs
    obtain ⟨rfl, rfl, rfl⟩ := hcs
    exact ⟨none, 0, 0, [], rfl, rfl, Row.nilRow _ _, Nat.zero_le _, fun _ h => by cases h⟩
  · simp [Value.cells] at hcs
    obtain ⟨rfl, rfl, rfl⟩ := hcs
    simp only [if_true] at hz
    refine ⟨some a, len, cap, zs.take len, rfl, by rw [List.length_take]; omega, ⟨by simp; omega, hl, fun e => (by cases e), fun ad e h0 => ?_⟩, hm, fun z hz' => hwz z (List.mem_of_mem_take hz')⟩
    injection e with e; subst e
    obtain ⟨ab, ao, spot⟩ := a
    have hspot : spot = none := by simpa [Addr.add] using World.cell?_spot (hcell 0 (by omega))
    subst hspot
    refine ⟨ab, ao, rfl, fun i hi => ?_⟩
    rw [Nat.mul_one] at hi
    have := hcell i (by omega)
    rw [Addr.add_lit] at this
    rw [this, List.getElem?_map, List.getElem?_take, if_pos hi, List.getElem?_eq_getElem (by omega)]
    simp [show i < zs.length by omega]
theorem bytes_of {zs : List Int} (h : ∀ z ∈ zs, (Lit.int .u8 z).wf = true) : zs.map (Value.int .u8) = bytesV (zs.map fun z => UInt8.ofNat z.toNat) := by
  unfold bytesV
  rw [List.map_map]
  apply List.map_congr_left
  intro z hz
  have := bounds_u8 (h z hz)
  simp only [Function.comp_apply, bv, w8, UInt8.toNat_ofNat']
  congr 1
  omega
/-- A slice of bytes, of ints, that came in. -/
theorem open_u8s {t e : TypeId} (ht : P.underlying t = some (.slice e)) (he : P.underlying e = some (.int .u8)) (hc : P.cellsOf e = 1) {base : Nat} {v : Value} {d : DataW H} {p : List MemPlace}
    (hval : Value.okWide P W .any base t v) (h : DataW.Trod enc P W 0 (fun _ => true) true t v d p) : ∃ (A : Option Addr) (n c : Nat) (us : List UInt8), v = .slice A n c ∧ Row W A n c 1 (bytesV us) ∧ c ≤ maxLen := by
  obtain ⟨A, n, c, zs, rfl, _, hr, hm, hw⟩ := open_nums ht he hc hval h
  rw [bytes_of hw] at hr
  exact ⟨A, n, c, _, rfl, hr, hm⟩
theorem open_i64s {t e : TypeId} (ht : P.underlying t = some (.slice e)) (he : P.underlying e = some (.int .i64)) (hc : P.cellsOf e = 1) {base : Nat} {v : Value} {d : DataW H} {p : List MemPlace}
    (hval : Value.okWide P W .any base t v) (h : DataW.Trod enc P W 0 (fun _ => true) true t v d p) : ∃ (A : Option Addr) (n c : Nat) (l : List Int), v = .slice A n c ∧ Row W A n c 1 (intsV l) ∧ c ≤ maxLen ∧ ∀ z ∈ l, -9223372036854775808 ≤ z ∧ z ≤ 9223372036854775807 := by
  obtain ⟨A, n, c, zs, rfl, _, hr, hm, hw⟩ := open_nums ht he hc hval h
  exact ⟨A, n, c, zs, rfl, hr, hm, fun z hz => bounds_i64 (hw z hz)⟩
theorem trodAll_below (hl : laidOutB P = true) (hb : Below W.heap.size W W') : ∀ {ts : List TypeId} {vs : List Value} {ds : List (DataW H)} {ps : List MemPlace}, (ts.all fun t => P.readableRec t && decide (t < P.types.size)) = true →
    DataW.TrodAll enc P W 0 (fun _ => true) true ts vs ds ps → DataW.TrodAll enc P W' 0 (fun b => decide (b < W.heap.size)) true ts vs ds ps
  | [], [], [], _, _, h => h
  | t :: ts, v :: vs, d :: ds, ps, hB, h => by
    have hlt := DataW.TrodAll.lt h
    obtain ⟨a, b, h1, h2, e⟩ := h
    simp only [List.all_cons, Bool.and_eq_true, decide_eq_true_eq] at hB
    subst e
    exact ⟨a, b, Below.trod hl hB.1.1 hB.1.2 h1 hb (fun x hx => hlt x (List.mem_append_left _ hx)), trodAll_below hl hb (by simpa using hB.2) h2, rfl⟩
/-- Behind a law that answered true and left below the old heap all as it was. -/
theorem law_post {f : Func} {s : ChangeSpec} {tb : TypeId} (hl : laidOutB P = true) (hres : f.resultTypes = #[tb]) (htb : P.underlying tb = some .bool) (hts : (f.params.toList.all fun t => P.readableRec t && decide (t < P.types.size)) = true) (hv : s.vars = [])
    {args : Array Value} {ds gs : List (DataW H)} {before : List MemPlace} (hW : DataW.Whole enc P f.params.toList s.vars false W args.toList ds gs before) (hfn : s.fn H (ds ++ gs) = { results := [.lit (.bool true)], args := ds }) (hb : Below W.heap.size W W') :
    ∃ v, Ending.returned (.bool true) = Ending.returned v ∧ s.post enc P f false true false false W args v W' := by
  have hW' := hW
  obtain ⟨p, q, hA, hV, rfl, _, _⟩ := hW
  refine ⟨_, rfl, ds, gs, _, [], p, [], hW', ?_, ?_, ?_, hb.frame _, fun h => by cases h⟩
  · rw [hfn, hres]; exact trodAll_mk1 (shut_bool htb _)
  · rw [hfn]; exact trodAll_below hl hb hts hA
  · rw [hfn, hv]; exact rfl
end
end Go.Proofs.YtnlnbakkobmclaaDoor
/- A statement that came in as an argument: its parts and how much it is. -/
namespace Go.Proofs.YtnlnbakkobmclaaDoor
open Go.ChangeShapes Go.WideShapes Go.RowKit Go.Deep
section
variable {H : Type} {enc : TypeId × Value → H} {W : World}
theorem bulk_app (l r : List (DataW H)) : Rows.uptoBulkAll (l ++ r) = Rows.uptoBulkAll l + Rows.uptoBulkAll r := by
  induction l with
  | nil => simp [Rows.uptoBulkAll]
  | cons x l ih => simp only [List.cons_append, Rows.uptoBulkAll, ih]; omega
theorem cellsPin : Tryd.prog.cellsOf 44 = 3 := by kernel_rfl
theorem cellsStm : Tryd.prog.cellsOf 27 = 13 := by kernel_rfl
theorem cellsSeal : Tryd.prog.cellsOf 25 = 2 := by kernel_rfl
theorem cellsInt : Tryd.prog.cellsOf 3 = 1 := by kernel_rfl
theorem cellsStr : Tryd.prog.cellsOf 9 = 1 := by kernel_rfl
theorem cellsInts : Tryd.prog.cellsOf 22 = 1 := by kernel_rfl
theorem cellsPins : Tryd.prog.cellsOf 23 = 1 := by kernel_rfl
theorem part_at {t : TypeId} {n k z : Nat} {cs l : List Value} {y : Option (DataW H × List MemPlace)} (hc : Tryd.prog.cellsOf t = z) (h : DataW.trod enc Tryd.prog W 0 (fun _ => true) true n t (List.take (Tryd.prog.cellsOf t) (List.drop k cs)) = y) (hd : List.take z (List.drop k cs) = l) :
    DataW.trod enc Tryd.prog W 0 (fun _ => true) true n t l = y := by
  rw [hc, hd] at h; exact h
/-- A slice of ints among the parts of an argument. -/
theorem part_ints {fuel : Nat} {v : Value} {x : DataW H × List MemPlace} (h : DataW.trod enc Tryd.prog W 0 (fun _ => true) true fuel 22 [v] = some x) :
    ∃ (A : Option Addr) (n c : Nat) (l : List Int), v = .slice A n c ∧ IRow W A n c l := by
  rcases open_ints Tryd.underlying22 Tryd.underlying3 cellsInt h with ⟨hcs, hx⟩ | ⟨a, len, cap, zs, hcs, _, hl, hm, hz, hx, hcell, hwz⟩
  · injection hcs with e _
    exact ⟨none, 0, 0, [], e, Row.nilRow _ _⟩
  · injection hcs with e _
    simp only [if_true] at hz
    refine ⟨some a, len, cap, zs.take len, e, ⟨by rw [intsV_len, List.length_take]; omega, hl, fun e => (by cases e), fun ad e h0 => ?_⟩⟩
    injection e with e; subst e
    obtain ⟨ab, ao, spot⟩ := a
    have hspot : spot = none := by simpa [Addr.add] using World.cell?_spot (hcell 0 (by omega))
    subst hspot
    refine ⟨ab, ao, rfl, fun i hi => ?_⟩
    rw [Nat.mul_one] at hi
    have := hcell i (by omega)
    rw [Addr.add_lit] at this
    rw [this, intsV, List.getElem?_map, List.getElem?_take, if_pos hi, List.getElem?_eq_getElem (by omega)]
    simp [show i < zs.length by omega, iv]
set_option maxRecDepth 100000 in
/-- A pin among the parts of an argument. -/
theorem part_pin {fuel : Nat} {cs : List Value} {x : DataW H × List MemPlace} (h : DataW.trod enc Tryd.prog W 0 (fun _ => true) true fuel 44 cs = some x) :
    ∃ p : PinD, cs = pinC p ∧ Rows.uptoBulk x.1 = p.digest.size + 4 := by
  obtain ⟨xs, n, _, hx, hlen, hxl, hg⟩ := DataW.trod_struct Tryd.underlying44 h
  rw [cellsPin] at hlen
  match cs, hlen with
  | [c0, c1, c2], _ =>
    match xs, hxl with
    | [y0, y1, y2], _ =>
      have g0 : DataW.trod enc Tryd.prog W 0 (fun _ => true) true n 3 [c0] = some y0 := part_at (k := 0) cellsInt (hg 0 _ rfl) rfl
      have g1 : DataW.trod enc Tryd.prog W 0 (fun _ => true) true n 3 [c1] = some y1 := part_at (k := 1) cellsInt (hg 1 _ rfl) rfl
      have g2 : DataW.trod enc Tryd.prog W 0 (fun _ => true) true n 9 [c2] = some y2 := part_at (k := 2) cellsStr (hg 2 _ rfl) rfl
      obtain ⟨a0, e0, f0, _⟩ := DataW.trod_int Tryd.underlying3 g0
      obtain ⟨a1, e1, f1, _⟩ := DataW.trod_int Tryd.underlying3 g1
      obtain ⟨a2, e2, f2, _⟩ := DataW.trod_string Tryd.underlying9 g2
      injection e0 with e0 _; injection e1 with e1 _; injection e2 with e2 _
      refine ⟨⟨a0, a1, a2⟩, by rw [e0, e1, e2]; rfl, ?_⟩
      rw [hx, f0, f1, f2]
      simp only [List.map_cons, List.map_nil, Rows.uptoBulk, Rows.uptoBulkAll, str_len]
      omega
theorem pins_bulk (P : Nat → PinD) (D : Nat → DataW H) : ∀ k, (∀ i, i < k → Rows.uptoBulk (D i) = (P i).digest.size + 4) →
    (pinsBs ((List.range k).map P)).length ≤ 24 * k + Rows.uptoBulkAll ((List.range k).map D)
  | 0, _ => by simp [pinsBs]
  | k + 1, h => by
    have ih := pins_bulk P D k (fun i hi => h i (by omega))
    have hk := h k (by omega)
    rw [List.range_succ, List.map_append, List.map_append, pinsBs_app, bulk_app, List.length_append]
    simp only [List.map_cons, List.map_nil, Rows.uptoBulkAll]
    have h2 : (pinsBs [P k]).length = 24 + (P k).digest.size := by
      simp only [pinsBs, List.flatMap_cons, List.flatMap_nil, List.append_nil, pinBs, List.length_append, listB_len, textS_len, List.length_cons, List.length_nil]
      omega
    omega
/-- A slice of pins among the parts of an argument. -/
theorem part_pins {fuel : Nat} {v : Value} {x : DataW H × List MemPlace} (h : DataW.trod enc Tryd.prog W 0 (fun _ => true) true fuel 23 [v] = some x) :
    ∃ (B : Option Addr) (m k : Nat) (l : List PinD), v = .slice B m k ∧ PRow W B m k l ∧ (pinsBs l).length ≤ 24 * l.length + Rows.uptoBulk x.1 := by
  rcases open_slice Tryd.underlying23 h with ⟨hcs, hx⟩ | ⟨a, len, cap, m, n, D, Pl, hcs, _, hl, _, hm, hx, hi⟩
  · injection hcs with e _
    exact ⟨none, 0, 0, [], e, Row.nilRow _ _, by simp [pinsBs]⟩
  · injection hcs with e _
    simp only [if_true] at hm
    subst hm
    rw [cellsPin] at hi
    have hall : ∀ i, ∃ p : PinD, i < m → Rows.uptoBulk (D i) = p.digest.size + 4 ∧ ∀ j, j < 3 → W.cell? (a.add (i * 3 + j)) = (pinC p)[j]? := fun i => by
      by_cases hlt : i < m
      · obtain ⟨cs', hc, ht⟩ := hi i hlt
        obtain ⟨p, hp, hb⟩ := part_pin ht
        obtain ⟨_, _, hat⟩ := World.cells?_some hc
        refine ⟨p, fun _ => ⟨hb, fun j hj => ?_⟩⟩
        rw [← Go.Deep.add_add, hat j hj, hp]
      · exact ⟨noPin, fun h => absurd h hlt⟩
    obtain ⟨P, hP⟩ := Classical.skolem.1 hall
    refine ⟨some a, len, m, (List.range len).map P, e, ⟨by rw [pinsC_len, List.length_map, List.length_range], hl, fun e => (by cases e), fun ad e h0 => ?_⟩, ?_⟩
    · injection e with e; subst e
      obtain ⟨ab, ao, spot⟩ := a
      have hspot : spot = none := by
        have := (hP 0 h0).2 0 (by omega)
        simpa [Addr.add] using World.cell?_spot (this.trans rfl)
      subst hspot
      refine ⟨ab, ao, rfl, fun i hi => ?_⟩
      have hq : i / 3 < len := by omega
      have h1 := (hP (i / 3) (by omega)).2 (i % 3) (by omega)
      rw [Addr.add_lit, show i / 3 * 3 + i % 3 = i by omega] at h1
      rw [h1]
      have h2 : ∀ j, (pinsC ((List.range len).map P))[i / 3 * 3 + j]? = (pinsC (((List.range len).map P).drop (i / 3)))[j]? := fun j => by rw [← pinsC_drop, List.getElem?_drop]
      have h3 := h2 (i % 3)
      rw [show i / 3 * 3 + i % 3 = i by omega] at h3
      rw [h3, List.drop_eq_getElem_cons (by simpa using hq)]
      simp only [List.getElem_map, List.getElem_range]
      show _ = (pinC (P (i / 3)) ++ pinsC _)[i % 3]?
      rw [List.getElem?_append_left (by show i % 3 < 3; omega)]
    · have hb := pins_bulk P D len (fun i hi => (hP i (by omega)).1)
      rw [hx]
      simp only [Rows.uptoBulk, List.length_map, List.length_range]
      omega
set_option maxRecDepth 100000 in
/-- A statement that came in. -/
theorem open_stm {base : Nat} {v : Value} {d : DataW H} {p : List MemPlace} (hval : Value.okWide Tryd.prog W .any base 27 v) (h : DataW.Trod enc Tryd.prog W 0 (fun _ => true) true 27 v d p) :
    ∃ (s : Stm) (A : Option Addr) (n c : Nat) (B : Option Addr) (m k : Nat), v = stmV s A n c B m k ∧ IRow W A n c s.list ∧ PRow W B m k s.pins ∧ (pinsBs s.pins).length ≤ 24 * s.pins.length + Rows.uptoBulk d := by
  obtain ⟨cs, rfl, hsz⟩ := okWide_struct Tryd.underlying27 hval
  obtain ⟨l⟩ := cs
  match l, hsz.trans cellsStm with
  | [c0, c1, c2, c3, c4, c5, c6, c7, c8, c9, c10, c11, c12], _ =>
    obtain ⟨fuel, hf⟩ := h
    obtain ⟨xs, n, _, hx, _, hlen, hg⟩ := DataW.trod_struct Tryd.underlying27 hf
    match xs, hlen with
    | [y0, y1, y2, y3, y4, y5, y6, y7, y8, y9, y10, y11], _ =>
      have g0 : DataW.trod enc Tryd.prog W 0 (fun _ => true) true n 3 [c0] = some y0 := part_at (k := 0) cellsInt (hg 0 _ rfl) rfl
      have g1 : DataW.trod enc Tryd.prog W 0 (fun _ => true) true n 3 [c1] = some y1 := part_at (k := 1) cellsInt (hg 1 _ rfl) rfl
      have g2 : DataW.trod enc Tryd.prog W 0 (fun _ => true) true n 9 [c2] = some y2 := part_at (k := 2) cellsStr (hg 2 _ rfl) rfl
      have g3 : DataW.trod enc Tryd.prog W 0 (fun _ => true) true n 3 [c3] = some y3 := part_at (k := 3) cellsInt (hg 3 _ rfl) rfl
      have g4 : DataW.trod enc Tryd.prog W 0 (fun _ => true) true n 3 [c4] = some y4 := part_at (k := 4) cellsInt (hg 4 _ rfl) rfl
      have g5 : DataW.trod enc Tryd.prog W 0 (fun _ => true) true n 3 [c5] = some y5 := part_at (k := 5) cellsInt (hg 5 _ rfl) rfl
      have g6 : DataW.trod enc Tryd.prog W 0 (fun _ => true) true n 3 [c6] = some y6 := part_at (k := 6) cellsInt (hg 6 _ rfl) rfl
      have g7 : DataW.trod enc Tryd.prog W 0 (fun _ => true) true n 3 [c7] = some y7 := part_at (k := 7) cellsInt (hg 7 _ rfl) rfl
      have g8 : DataW.trod enc Tryd.prog W 0 (fun _ => true) true n 22 [c8] = some y8 := part_at (k := 8) cellsInts (hg 8 _ rfl) rfl
      have g9 : DataW.trod enc Tryd.prog W 0 (fun _ => true) true n 23 [c9] = some y9 := part_at (k := 9) cellsPins (hg 9 _ rfl) rfl
      have g10 : DataW.trod enc Tryd.prog W 0 (fun _ => true) true n 9 [c10] = some y10 := part_at (k := 10) cellsStr (hg 10 _ rfl) rfl
      have g11 : DataW.trod enc Tryd.prog W 0 (fun _ => true) true n 25 [c11, c12] = some y11 := part_at (k := 11) cellsSeal (hg 11 _ rfl) rfl
      obtain ⟨a0, e0, _, _⟩ := DataW.trod_int Tryd.underlying3 g0
      obtain ⟨a1, e1, _, _⟩ := DataW.trod_int Tryd.underlying3 g1
      obtain ⟨a2, e2, _, _⟩ := DataW.trod_string Tryd.underlying9 g2
      obtain ⟨a3, e3, _, _⟩ := DataW.trod_int Tryd.underlying3 g3
      obtain ⟨a4, e4, _, _⟩ := DataW.trod_int Tryd.underlying3 g4
      obtain ⟨a5, e5, _, _⟩ := DataW.trod_int Tryd.underlying3 g5
      obtain ⟨a6, e6, _, _⟩ := DataW.trod_int Tryd.underlying3 g6
      obtain ⟨a7, e7, _, _⟩ := DataW.trod_int Tryd.underlying3 g7
      obtain ⟨A, n8, k8, l8, e8, r8⟩ := part_ints g8
      obtain ⟨B, n9, k9, l9, e9, r9, b9⟩ := part_pins g9
      obtain ⟨a10, e10, _, _⟩ := DataW.trod_string Tryd.underlying9 g10
      obtain ⟨xs2, n2, _, _, _, hlen2, hg2⟩ := DataW.trod_struct Tryd.underlying25 g11
      match xs2, hlen2 with
      | [z0, z1], _ =>
        have q0 : DataW.trod enc Tryd.prog W 0 (fun _ => true) true n2 3 [c11] = some z0 := part_at (k := 0) cellsInt (hg2 0 _ rfl) rfl
        have q1 : DataW.trod enc Tryd.prog W 0 (fun _ => true) true n2 9 [c12] = some z1 := part_at (k := 1) cellsStr (hg2 1 _ rfl) rfl
        obtain ⟨a11, e11, _, _⟩ := DataW.trod_int Tryd.underlying3 q0
        obtain ⟨a12, e12, _, _⟩ := DataW.trod_string Tryd.underlying9 q1
        injection e0 with e0 _; injection e1 with e1 _; injection e2 with e2 _; injection e3 with e3 _; injection e4 with e4 _; injection e5 with e5 _; injection e6 with e6 _; injection e7 with e7 _
        injection e10 with e10 _; injection e11 with e11 _; injection e12 with e12 _
        refine ⟨⟨a0, a1, a2, a3, a4, a5, a6, a7, l8, l9, a10, a11, a12⟩, A, n8, k8, B, n9, k9, by rw [e0, e1, e2, e3, e4, e5, e6, e7, e8, e9, e10, e11, e12]; rfl, r8, r9, ?_⟩
        simp only [Prod.mk.injEq] at hx
        rw [hx.1]
        simp only [List.map_cons, List.map_nil, Rows.uptoBulk, Rows.uptoBulkAll]
        omega
end
end Go.Proofs.YtnlnbakkobmclaaDoor
/-
  PROVED: for every s, o and b that are together of bulk at most 1048576 the law StatementRaw returns true and leaves its arguments as they were. Conditions: the row's own (the bulk; the table digest.rounds holds what the program's text lays; it is tied to that text by the card).
-/
namespace Go.Proofs.YtnlnbakkobmclaaDoor.statementRawUpto
open Go.ChangeShapes Go.WideShapes Go.ChangeAt Go.RowKit

theorem own : ownKnob Tryd.prog.godebug = none := by kernel_rfl
theorem laidOut : laidOutB Tryd.prog = true := by kernel_rfl
theorem cellsU : Tryd.prog.cellsOf 5 = 1 := by kernel_rfl
theorem gRounds : Tryd.prog.globalNamed "trustflow/digest.rounds" = some 0 := by kernel_rfl
theorem tRounds : (Tryd.prog.globals[0]?).map (·.type) = some 103 := by kernel_rfl
def kInts : List Int := Sha.K.map w32
theorem datum : (Rows.laid_trustflow_digest_rounds : DataW Unit) = Lib.tabData .u32 kInts := by kernel_rfl
/-- What the row's premise gives the walk: the table of the rounds. -/
theorem rounds_of_laid {W : World} (h : laidMetH Tryd.prog [("trustflow/digest.rounds", Rows.laid_trustflow_digest_rounds)] W) : Rounds W := by
  rw [MakeChecks.laidMetH_plain _ _ _ (by kernel_rfl), datum] at h
  have hT := Lib.tabIs_of_head gRounds tRounds Tryd.underlying103 Tryd.underlying86 (by kernel_rfl) (by kernel_rfl) h
  intro i hi
  have hl : i < kInts.length := by show i < 64; exact hi
  rw [hT.cell gRounds i hl]
  congr 2
  simp only [kInts, Sha.kAt, Sha.at_]
  have h2 : i < Sha.K.length := by show i < 64; exact hi
  simp [h2]
theorem door_met (os : Os) (args : Array Value) : laidMetH Tryd.prog [("trustflow/digest.rounds", Rows.laid_trustflow_digest_rounds)] ((World.doorLaid Tryd.prog 400 os).forCall (fun _ _ => 0) ⟨#[], args, []⟩).memory :=
  laidMetH_of_parts3 (fuel := 8) (laidMet_of_run' 8 (by kernel_rfl) (by kernel_rfl)) (by kernel_rfl) (by kernel_rfl)
/-- An input that fits: nothing, twice, and no bytes. -/
def noneV : Value := .agg #[.int .i64 0, .int .i64 0, .string ⟨#[]⟩, .int .i64 0, .int .i64 0, .int .i64 0, .int .i64 0, .int .i64 0, .slice none 0 0, .slice none 0 0, .string ⟨#[]⟩, .int .i64 0, .string ⟨#[]⟩]
def noneD {H : Type} : DataW H := .agg [.lit (.int .i64 0), .lit (.int .i64 0), .lit (.string []), .lit (.int .i64 0), .lit (.int .i64 0), .lit (.int .i64 0), .lit (.int .i64 0), .lit (.int .i64 0), .nil, .nil, .lit (.string []), .agg [.lit (.int .i64 0), .lit (.string [])]]
theorem reads (os : Os) {H : Type} (enc : TypeId × Value → H) : ∃ places, DataW.whole enc Tryd.prog ((World.doorLaid Tryd.prog 400 os).forCall (fun _ _ => 0) ⟨#[], #[noneV, noneV, .slice none 0 0], []⟩).memory Tryd.f3.params.toList Rows.statementRawSpec.vars false #[noneV, noneV, Value.slice none 0 0].toList 8 = some ([noneD, noneD, .nil], [], places) :=
  ⟨[], by kernel_rfl⟩
set_option maxRecDepth 100000 in
theorem lifted (os : Os) (started : os.Started) (H : Type) (enc : TypeId × Value → H) (F : Stop.Interp) :
    ReturnsInHanded {} Tryd.checked os 3 .any ((Rows.OpenSpec.upto Rows.statementRawSpec).preRow enc Tryd.prog Tryd.f3 Rows.statementRawUptoRow.domain false Rows.statementRawUptoRow.laid) (((Rows.OpenSpec.upto Rows.statementRawSpec).at F).post enc Tryd.prog Tryd.f3 false true false false) := by
  obtain ⟨places, hx⟩ := reads os enc
  refine returnsInHanded_of_row (C := Tryd.checked) (s := Rows.OpenSpec.upto Rows.statementRawSpec) own started (by kernel_rfl) Tryd.func3
    (witness_row_at (enc := enc) (C := Tryd.checked) false (World.doorLaid Tryd.prog 400 os) #[noneV, noneV, .slice none 0 0] rfl (by kernel_rfl) (by kernel_rfl) (by kernel_rfl)
      (OpenSpec.preRow_of_cond 8 hx (by kernel_rfl) (fun k hk => by cases hk; kernel_rfl) (by kernel_rfl) (door_met os _))) ?_
  intro W base args ds gs before hval0 hW _ hcond _ hL _ _
  have hval : ∀ (j : Nat) t v, Tryd.f3.params[j]? = some t → args[j]? = some v → Value.okWide Tryd.prog W .any base t v := hval0
  have hW' : DataW.Whole enc Tryd.prog Tryd.f3.params.toList Rows.statementRawSpec.vars false W args.toList ds gs before := hW
  have hbd : Rows.uptoBulkAll (ds ++ gs) ≤ 1048576 := of_decide_eq_true (hcond Rows.uptoSmall rfl)
  obtain ⟨p, q, hA0, hV, rfl, _, _⟩ := hW
  have hA : DataW.TrodAll enc Tryd.prog W 0 (fun _ => true) true Tryd.f3.params.toList args.toList ds p := hA0
  rw [Tryd.params3] at hA hval
  obtain ⟨v0, v1, v2, d0, d1, d2, p0, p1, p2, rfl, rfl, rfl, h0, h1, h2⟩ := trodAll_three hA
  obtain ⟨rfl, rfl⟩ := trodVars_none hV
  obtain ⟨s, A, n, c, B, m, k, rfl, hl, hp, hb⟩ := open_stm (hval 0 27 v0 rfl rfl) h0
  obtain ⟨o, A2, n2, c2, B2, m2, k2, rfl, hl2, hp2, _⟩ := open_stm (hval 1 27 v1 rfl rfl) h1
  obtain ⟨A3, n3, c3, us, rfl, hr3, _⟩ := open_u8s Tryd.underlying28 Tryd.underlying5 cellsU (hval 2 28 v2 rfl rfl) h2
  simp only [List.append_nil, Rows.uptoBulkAll] at hbd
  clear hA0 hval0
  refine (raw_any s A n c B m k o A2 n2 c2 B2 m2 k2 A3 n3 c3 us W hl hp hl2 hp2 hr3 (by omega) (rounds_of_laid hL)).mono fun e W' ⟨he, hb⟩ => ?_
  subst he
  show ∃ v, Ending.returned (.bool true) = Ending.returned v ∧ Rows.statementRawSpec.post enc Tryd.prog Tryd.f3 false true false false W _ v W'
  exact law_post laidOut (by kernel_rfl) Tryd.underlying4 (by kernel_rfl) rfl hW' rfl hb
theorem over : Rows.StatementRawUptoSaid :=
  OpenClaim.holds_of_cond 3 Tryd.f3 rfl rfl rfl rfl rfl rfl rfl ⟨rfl, rfl, rfl, rfl, rfl⟩ rfl rfl rfl rfl rfl (by kernel_rfl) Tryd.func3 (by kernel_rfl)
    (of_decide_eq_true (by kernel_rfl)) (by unfold Func.isWrapper; first | (rw [if_pos (by decide +kernel)]; kernel_rfl) | (rw [if_neg (by decide +kernel)]; exact ⟨rfl, rfl⟩))
    (fun os started H enc _ F => by rw [OpenClaim.pre_eq_preRow]; exact lifted os started H enc F)
/-- No parameter wants a stand-in; the program's own looks are off. -/
theorem plain (f : FuncId) (fn : Func) (hf : Tryd.pinned.checked.prog.funcNamed "trustflow/trustflowlaw03.StatementRaw" = some f) (hfn : Tryd.pinned.checked.prog.funcs[f]? = some fn) :
    true = Tryd.pinned.checked.prog.looks [] ∧ ∀ (j : Nat) t, fn.params[j]? = some t → Tryd.pinned.checked.prog.wantsStandIn t = false := by
  obtain rfl : f = 3 := Option.some.inj ((show Tryd.prog.funcNamed "trustflow/trustflowlaw03.StatementRaw" = some 3 by kernel_rfl).symm.trans hf) |>.symm
  obtain rfl : fn = Tryd.f3 := (Option.some.inj (Tryd.func3.symm.trans hfn)).symm
  refine ⟨by kernel_rfl, fun j t ht => ?_⟩
  rw [Tryd.params3] at ht
  have hm : t ∈ [27, 27, 28] := by simpa using Array.mem_of_getElem? ht
  have hall : ([27, 27, 28].all fun u => !Tryd.prog.wantsStandIn u) = true := by kernel_rfl
  exact (show Tryd.prog.wantsStandIn t = false by simpa using List.all_eq_true.1 hall t hm)
theorem card_holds : Rows.StatementRawUptoCardSaid :=
  Claim7.holds_tied_plain_at .later [] _ _ _ _ over (fun _ h => by cases h) (by kernel_rfl) (fun _ h => by cases h) statementRawUpto_row_tie rfl ⟨rfl, rfl⟩ (by kernel_rfl) rfl plain (by kernel_rfl)
end Go.Proofs.YtnlnbakkobmclaaDoor.statementRawUpto
