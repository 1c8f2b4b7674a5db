import Derived.Test.YtnmpbjgccbnomaaGreatBlockP
import Derived.Test.YtnmpbjgccbnomaaGreatPackAB
import Derived.Deep.RegionLaw
/- The walks of the reference's constants and Sum. -/
namespace Go.Proofs.YtnmpbjgccbnomaaGreat
open Go.RowKit
theorem consts_wb {w : World} {cs : Array Value} (h : cs = cellsW Sha.K 64) : WB (w.alloc (.cells cs 132)) w.heap.size Sha.K := by
  subst h; exact WB.of_heap (heap_alloc_new _ _)
theorem start_wb {w : World} {cs : Array Value} (h : cs = cellsW (Sha.toL Sha.start) 8) : WB (w.alloc (.cells cs 132)) w.heap.size (Sha.toL Sha.start) := by
  subst h; exact WB.of_heap (heap_alloc_new _ _)
set_option maxRecDepth 100000 in
set_option maxHeartbeats 400000 in
theorem constants_any (w : World) : Calls Tryz.prog 110 #[] w fun e w' =>
    e = .returned (.slice (some ⟨w.heap.size, 0, none⟩) 64 64) ∧ WB w' w.heap.size Sha.K ∧ Below w.heap.size w w' := by
  go_enter Tryz.func110, Tryz.ntmps110
  go_wp2
  go_ret
  exact ⟨rfl, consts_wb (by kernel_rfl), (Below.refl _ _).alloc (Nat.le_refl _) _⟩
set_option maxRecDepth 100000 in
set_option maxHeartbeats 0 in
theorem refSum_any (A : Option Addr) (n c : Nat) (m : List UInt8) (w : World) (hm : SliceAt w A n c m) (hn : n ≤ 3000000) :
    Calls Tryz.prog 92 #[.slice A n c] w fun e w' => e = .returned (.string (strOf (Sha.textTo (Sha.toL (Sha.eat ((padAll m).length / 64) (padAll m) Sha.start).1) 8))) ∧ Below w.heap.size w w' := by
  have HM := Lib.hid hm; have HN := Lib.hid hm.len; clear hm
  go_enter Tryz.func92, Tryz.ntmps92
  go_wp2_with (first
    | (at_builtin; refine wpList_spread _ rfl (.const (.slice none 0 0)) (.tmp 12) 119 5 rfl (w.heap.size + 1) Tryz.underlying119 u8_info (.slice none 0 0) [] (World.ownsRow_nil _ _ _ _) rfl A n c m (HM.out.below ((Below.refl _ _).alloc (Nat.le_refl _) _)) rfl (by simp; omega) (by simp) ?_; intro v2 w2 ho2 hb2; have HO2 := Lib.hid ho2; clear ho2)
    | (at_builtin; refine wpList_push w2 rfl (.tmp 13) (.tmp 14) 119 5 rfl (w.heap.size + 1) Tryz.underlying119 u8_info v2 ([] ++ m) HO2.out rfl 1 [128] rfl _ rfl rfl (by rw [List.nil_append, HN.out]; omega) (by have := hb2.size; simpa using this) ?_; intro v3 w3 ho3 hb3; have HO3 := Lib.hid ho3; clear ho3))
  have hs : WB w3 w.heap.size (Sha.toL Sha.start) := by
    refine ((start_wb (w := w) ?_).below hb2 (by omega)).below hb3 (by omega)
    kernel_rfl
  have hbw : Below w.heap.size w w3 := ((Below.refl _ _).alloc (Nat.le_refl _) _).trans ((hb2.trans hb3).mono (by omega))
  have hs3 : w.heap.size + 1 ≤ w3.heap.size := by have h1 := hb2.size; have h2 := hb3.size; simp at h1; omega
  have HS := Lib.hid hs; have HB := Lib.hid hbw
  clear hs hbw hb2 hb3
  obtain ⟨z, hz⟩ : ∃ z, z = zerosFor (n % 64) := ⟨_, rfl⟩
  have hz64 : z ≤ 63 ∧ (n + 1 + z) % 64 = 56 := by rw [hz]; unfold zerosFor; split <;> omega
  have hzmin : ∀ k, k < z → (n + 1 + k) % 64 ≠ 56 := by intro k hk; rw [hz] at hk; unfold zerosFor at hk; split at hk <;> omega
  have HZ := Lib.hid hz; have HZ64 := Lib.hid hz64; have HMIN := Lib.hid hzmin; clear hz hz64 hzmin
  go_loopw [4] (fun v wr => ∃ k : Nat, k ≤ z ∧ Hid (Owns wr (w.heap.size + 1) 5 v (m ++ [128] ++ List.replicate k 0) ∧ Below (w.heap.size + 1) w3 wr)) (fun v _ => match v with | .slice _ l _ => 4000000 - l | _ => 0)
  case atStart => exact ⟨0, Nat.zero_le _, by simpa using HO3.out, Below.refl _ _⟩
  case round =>
    obtain ⟨k, hk, HI⟩ := hrel
    have hlen : (m ++ [128] ++ List.replicate k (0 : UInt8)).length = n + 1 + k := by simp [HN.out]; omega
    obtain ⟨g, cap, hv, hg1, hg2, hg3, hg4, -⟩ := HI.out.1.form (by omega)
    rw [hlen] at hv hg3
    subst hv
    clear hg4
    have HL := Lib.hid hlen; clear hlen
    have hk63 : k ≤ 63 := by have := HZ64.out.1; omega
    by_cases hlt : k < z
    · have hne : ((((n : Int) + 1 + k) % 64) != 56) = true := by rw [bne_iff_ne]; have := HMIN.out k hlt; omega
      have hsw : w.heap.size + 1 ≤ wr.heap.size := by have := HI.out.2.size; omega
      go_wp2_with (at_builtin; refine wpList_push wr rfl (.tmp 20) (.tmp 21) 119 5 rfl (w.heap.size + 1) Tryz.underlying119 u8_info _ _ HI.out.1 rfl 1 [0] rfl _ rfl rfl (by rw [HL.out]; omega) hsw ?_; intro v' w' hown' hb')
      refine ⟨⟨k + 1, hlt, ?_, HI.out.2.trans hb'⟩, ?_⟩
      · rw [List.replicate_succ', ← List.append_assoc]; exact hown'
      · have hl2 : (m ++ [128] ++ List.replicate k (0 : UInt8) ++ [0]).length = n + 1 + k + 1 := by rw [List.length_append, HL.out]; rfl
        obtain ⟨g', cap', hv', -⟩ := hown'.form (by omega)
        subst hv'
        simp only [hl2]
        omega
    · have HE : Hid (k = z) := by unfold Hid; omega
      have hne : ((((n : Int) + 1 + k) % 64) != 56) = false := by rw [bne_eq_false_iff_eq]; have := HZ64.out.2; have := HE.out; omega
      go_wp2
      clear hne
      refine codeWp_any (fun W => Hid (Owns W (w.heap.size + 1) 5 (.slice (some ⟨g, 0, none⟩) (n + 1 + k) cap) (m ++ [128] ++ List.replicate k 0) ∧ Below (w.heap.size + 1) w3 W)) HI (fun w4 H4 => ?_)
      clear HI hg1 hg2 hg3
      go_loopw [4, 6] (fun v i wr => ∃ r : Nat, r ≤ 8 ∧ i = .int .i64 (7 - (r : Int)) ∧ Hid (Owns wr (w.heap.size + 1) 5 v (m ++ [128] ++ List.replicate k 0 ++ wideTo (8 * n) r) ∧ Below (w.heap.size + 1) w3 wr)) (fun _ i _ => (intOf i + 1).toNat)
      case atStart => exact ⟨0, by omega, by go_num, Lib.hid (by simpa [wideTo] using H4.out)⟩
      case round =>
        obtain ⟨r, hr, rfl, HI⟩ := hrel
        clear H4
        have hlen : (m ++ [128] ++ List.replicate k (0 : UInt8) ++ wideTo (8 * n) r).length = n + 1 + k + r := by rw [List.length_append, HL.out, wideTo_len]
        have HLR := Lib.hid hlen; clear hlen
        by_cases hltr : r < 8
        · have h0 : (0 : Int) ≤ 7 - (r : Int) := by omega
          have hby : (n : Int) * 8 / 2 ^ (8 * (7 - r)) % 256 = w8 (wideAt (8 * n) r) := by
            rw [← wideAt_eq, show 56 - 8 * r = 8 * (7 - r) by omega, show ((8 * n : Nat) : Int) = (n : Int) * 8 by omega]
          have hsw : w.heap.size + 1 ≤ wr.heap.size := by have := HI.out.2.size; omega
          go_wp2_with (at_builtin; refine wpList_push wr rfl (.tmp 31) (.tmp 38) 119 5 rfl (w.heap.size + 1) Tryz.underlying119 u8_info _ _ HI.out.1 rfl 1 [wideAt (8 * n) r] rfl _ rfl rfl (by rw [HLR.out]; omega) hsw ?_; intro v' w' hown' hb')
          exact ⟨⟨r + 1, by omega, by go_num, by rw [wideTo_succ, ← List.append_assoc]; exact ⟨hown', HI.out.2.trans hb'⟩⟩, by simp [intOf]; omega⟩
        · have HR8 : Hid (r = 8) := by unfold Hid; omega
          have hpad : m ++ [128] ++ List.replicate k (0 : UInt8) ++ wideTo (8 * n) r = padAll m := by
            rw [HR8.out, HE.out, HZ.out]; unfold padAll wide; rw [HN.out]
          obtain ⟨g5, cap5, hv5, hg5, hg5', hc5, -, hcells⟩ := HI.out.1.form (by rw [HLR.out]; omega)
          rw [HLR.out] at hv5 hc5
          subst hv5
          have hlenP : (padAll m).length = n + 1 + k + r := by rw [← hpad]; exact HLR.out
          rw [hpad] at hcells
          obtain ⟨P, hP⟩ : ∃ P, P = padAll m := ⟨_, rfl⟩
          rw [← hP] at hcells hlenP
          have hL64 : (n + 1 + k + r) % 64 = 0 := by have h1 := HZ64.out.2; have h2 := HE.out; have h3 := HR8.out; omega
          obtain ⟨L, hL⟩ : ∃ L, L = n + 1 + k + r := ⟨_, rfl⟩
          rw [← hL] at hL64 hlenP hc5 ⊢
          have hLle : L ≤ 4000000 := by omega
          have hbw : Below (w.heap.size + 1) w3 wr := HI.out.2
          have hcell2 : ∀ i, i < L → wr.cell? ⟨g5, i, none⟩ = some (bv (P.getD i 0)) := fun i hi => by
            have h := hcells i (by rw [hlenP]; exact hi)
            exact h
          have HP := Lib.hid hP; have HLL := Lib.hid hL; have HL64 := Lib.hid hL64; have HLP := Lib.hid hlenP; have HB3 := Lib.hid hbw; have HCELL := Lib.hid hcell2
          clear hP hL hL64 hlenP hbw hcell2 hcells hpad HI
          go_wp2_with (go_at_call 110; refine (constants_any _).mono ?_; rintro e w5 ⟨rfl, hk5, hb5⟩; have HK5 := Lib.hid hk5; clear hk5)
          obtain ⟨kb, hkb⟩ : ∃ kb, kb = wr.heap.size := ⟨_, rfl⟩
          have hg5k : g5 < kb := by rw [hkb]; exact hg5'
          have hwk : w.heap.size < kb := by have := HB3.out.size; omega
          have hkb5 : kb < w5.heap.size := by rw [hkb]; exact HK5.out.lt (by decide)
          have hs5 : WB w5 w.heap.size (Sha.toL Sha.start) := (HS.out.below HB3.out (by omega)).below hb5 (by omega)
          have hp5 : ∀ i, i < L → w5.cell? ⟨g5, i, none⟩ = some (bv (P.getD i 0)) := fun i hi => (hb5.cell (p := ⟨g5, i, none⟩) (by simp only; omega)).trans (HCELL.out i hi)
          have hbw5 : Below w.heap.size w w5 := (HB.out.trans (HB3.out.mono (by omega))).trans (hb5.mono (by omega))
          have hk5 := HK5.out
          rw [← hkb] at hk5 ⊢
          have HS5 := Lib.hid hs5; have HP5 := Lib.hid hp5; have HB5 := Lib.hid hbw5; have HKK := Lib.hid hk5
          clear hs5 hp5 hbw5 hk5 hkb hb5 HK5 hg5' hg5 HCELL
          obtain ⟨X, hX⟩ : ∃ X, X = Sha.eat (L / 64) P Sha.start := ⟨_, rfl⟩
          have HX := Lib.hid hX; clear hX
          go_loopw [3, 8] (fun v i wr => ∃ i0 hg hcap : Nat, v = .slice (some ⟨hg, 0, none⟩) 8 hcap ∧ i = .int .i64 i0 ∧ i0 ≤ L ∧ Hid (∃ q st, i0 + 64 * q = L ∧ Sha.eat q (P.drop i0) st = X ∧ WB wr hg (Sha.toL st) ∧ Below w5.heap.size w5 wr)) (fun _ i _ => L - (intOf i).toNat)
          case atStart => exact ⟨0, w.heap.size, 8, rfl, rfl, Nat.zero_le _, L / 64, Sha.start, by have := HL64.out; omega, by rw [List.drop_zero]; exact HX.out.symm, HS5.out, Below.refl _ _⟩
          case round =>
            obtain ⟨i0, hg, hcap, rfl, rfl, hi0, HJ⟩ := hrel
            by_cases hlt3 : i0 < L
            · obtain ⟨q, st, hq, he, hwb, hbl⟩ := HJ.out
              clear HJ
              have hLe2 : L ≤ cap5 := hc5
              have hcapne : ¬ cap5 = i0 := by omega
              have hle64 : i0 + 64 ≤ cap5 := by omega
              have HQ := Lib.hid hq; have HEA := Lib.hid he; have HWB := Lib.hid hwb; have HBL := Lib.hid hbl
              clear hq he hwb hbl
              have hbp : ∀ i, i < 64 → wr.cell? ⟨g5, i0 + i, none⟩ = some (.int .u8 (w8 (Sha.blk (P.drop i0) i))) := fun i hi => by
                rw [HBL.out.cell (p := ⟨g5, i0 + i, none⟩) (by simp only; omega), HP5.out _ (by have := HQ.out; omega), Sha.blk_lt _ _ hi]
                simp [List.getElem?_drop, bv]
              have HBP := Lib.hid hbp; clear hbp
              have hg5r : g5 < wr.heap.size := by have := HBL.out.size; omega
              go_wp2_with (go_at_call 111; refine (block_any g5 i0 64 (cap5 - i0) hg hcap kb st (P.drop i0) wr (Nat.le_refl _) (by omega) hg5r HBP.out HWB.out (HKK.out.below HBL.out hkb5)).mono ?_; rintro e w6 ⟨hg6, hcap6, rfl, hwb6, hb6⟩; have HWB6 := Lib.hid hwb6; clear hwb6)
              have hq1 : 1 ≤ q := by have := HQ.out; omega
              refine ⟨⟨i0 + 64, hg6, hcap6, rfl, by go_num, by have := HQ.out; omega, Lib.hid ⟨q - 1, Sha.mixL st (P.drop i0), by have := HQ.out; omega, ?_, HWB6.out, HBL.out.trans (hb6.mono HBL.out.size)⟩⟩, by simp [intOf]; omega⟩
              rw [← HEA.out, show q = (q - 1) + 1 by omega, Sha.eat_succ, List.drop_drop, Nat.add_sub_cancel]
            · obtain ⟨st, hst, hwb, hbl⟩ : ∃ st, X.1 = st ∧ WB wr hg (Sha.toL st) ∧ Below w5.heap.size w5 wr := by
                obtain ⟨q, st, hq, he, hwb, hbl⟩ := HJ.out
                have : q = 0 := by omega
                subst this
                rw [Sha.eat_zero] at he
                exact ⟨st, by rw [← he], hwb, hbl⟩
              clear HJ
              have hbw6 : Below w.heap.size w wr := HB5.out.trans (hbl.mono (by omega))
              have HST := Lib.hid hst; have HWB := Lib.hid hwb; have HBW6 := Lib.hid hbw6
              clear hst hwb hbl hbw6
              go_wp2
              refine codeWp_any (fun W => Hid (WB W hg (Sha.toL st)) ∧ Hid (Below w.heap.size w W)) ⟨HWB, HBW6⟩ (fun w6 H6 => ?_)
              obtain ⟨HW6, HB6⟩ := H6
              clear HWB HBW6
              have hg6 : hg < w6.heap.size := HW6.out.lt (by rw [Sha.toL_len]; omega)
              have hz6 : w.heap.size ≤ w6.heap.size := HB6.out.size
              go_loopw [9, 10] (fun v i wr => ∃ j : Nat, j ≤ 8 ∧ i = .int .i64 j ∧ Hid (Owns wr w6.heap.size 5 v (Sha.textTo (Sha.toL st) j)) ∧ Hid (Below w6.heap.size w6 wr)) (fun _ i _ => 8 - (intOf i).toNat)
              case atStart => exact ⟨0, by omega, rfl, Lib.hid (World.ownsRow_nil _ _ _ _), Lib.hid (Below.refl _ _)⟩
              case round =>
                obtain ⟨j, hj, rfl, HO, HBJ⟩ := hrel
                have hlen := Sha.textTo_len (Sha.toL st) j
                by_cases hlt4 : j < 8
                · have hck : wr.cell? ⟨hg, j, none⟩ = some (.int .u32 (w32 (Sha.at_ (Sha.toL st) j))) := (HW6.out.below HBJ.out hg6) j (by rw [Sha.toL_len]; exact hlt4)
                  have HLT := Lib.hid hlen; clear hlen
                  have hsw : w6.heap.size ≤ wr.heap.size := HBJ.out.size
                  have p4 : (j : Int) < 8 := by omega
                  go_wp2
                  go_region_law ((refine step_push wr.drew rfl (.tmp 59) (.tmp 83) 119 5 rfl w6.heap.size Tryz.underlying119 u8_info _ (Sha.textTo (Sha.toL st) j) HO.out rfl 4 (Sha.bytes4 (Sha.at_ (Sha.toL st) j)) rfl _ rfl rfl rfl rfl (by rw [HLT.out]; omega) hsw ?_; intro v' w' hown' hb'))
                  all_goals
                    go_wp2
                    exact ⟨⟨j + 1, by omega, by go_num, Lib.hid hown', Lib.hid (HBJ.out.trans (Below.trans (Below.refl _ _).drew hb'))⟩, by simp [intOf]; omega⟩
                · have HJ8 : Hid (j = 8) := by unfold Hid; omega
                  obtain ⟨g9, cap9, hv9, -, -, -, -, hcells9⟩ := HO.out.form (by omega)
                  rw [hlen] at hv9
                  subst hv9
                  have hconv := run_conv_owned (P := Tryz.prog) wr 119 5 9 Tryz.underlying119 Tryz.underlying5 Tryz.underlying9 g9 0 _ (4 * j) hlen (fun i hi => by rw [Nat.zero_add]; exact hcells9 i (by omega)) cap9
                  clear hcells9 hlen
                  go_wp2
                  go_ret
                  refine ⟨?_, HB6.out.trans (HBJ.out.mono hz6)⟩
                  show Ending.returned (.string (strOf (Sha.textTo (Sha.toL st) j))) = _
                  rw [HJ8.out, ← HST.out, HX.out, HP.out]
                  have hpl : L = (padAll m).length := by rw [← HP.out]; exact HLP.out.symm
                  rw [hpl]
end Go.Proofs.YtnmpbjgccbnomaaGreat
