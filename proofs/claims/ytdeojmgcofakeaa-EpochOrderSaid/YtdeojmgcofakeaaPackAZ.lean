import Derived.Test.YtdeojmgcofakeaaPackAY
import Derived.Test.YtdeojmgcofakeaaPackAA
import Derived.ProofKit
import Derived.OpenShut
import Derived.Carry
import Derived.Handed
import Derived.ChangeMaps5
import Derived.Test.YtdeojmgcofakeaaPackAB
import Derived.Test.YtdeojmgcofakeaaRows
import Derived.Deep.Slices
import Derived.Deep.Fields
import Derived.ChangeSame
import Derived.Test.YtdeojmgcofakeaaPackAK
import Derived.Laws.IdiomArrays
/- The walk of the law EpochRaw, over any program that gives what layer 9 asks. -/
namespace Go.Proofs.Ytdeojmgcofakeaa
open Go.RowKit
set_option maxRecDepth 100000 in
set_option maxHeartbeats 4000000 in
theorem rawE_any (H : EpochC) (A : Option Addr) (n c : Nat) (l : List Pl) (n0 n1 n2 : Int) (w : World) (hl : LRow w A n c l) (h0 : I64 n0) (h1 : I64 n1) (h2 : I64 n2) :
    Calls Try.prog 3 #[.slice A n c, .agg #[.int .i64 n0, .int .i64 n1, .int .i64 n2]] w (SaysL (.bool true) w) := by
  have HAW : Hid (∀ y, Below w.heap.size w y → Calls Try.prog 7 #[] y (SaysL (.bool true) y)) := Lib.hid fun y _ => awakeE_any H y
  have HNW := Lib.hid (one_new w (.cells #[.int .i64 n0, .int .i64 n1, .int .i64 n2] 23))
  have HG : Hid ((w.alloc (.cells #[.int .i64 n0, .int .i64 n1, .int .i64 n2] 23)).heap[w.heap.size]? = some (.cells #[.int .i64 n0, .int .i64 n1, .int .i64 n2] 23 (0, 0))) := Lib.hid (heap_alloc_new _ _)
  have HL := Lib.hid (hl.later HNW.out); have HLN := Lib.hid hl.len
  have HI := Lib.hid (And.intro h0 (And.intro h1 h2))
  clear hl h0 h1 h2
  go_enter Try.func3, Try.ntmps3
  by_cases hn : n ≤ 20
  · have g0 : decide ((n : Int) > 20) = false := decide_eq_false (by omega)
    have g1 : ¬ (20 : Int) < (n : Int) := by omega
    go_wp2_with fail
    generalize w.alloc (.cells #[.int .i64 n0, .int .i64 n1, .int .i64 n2] 23) = y0 at *
    generalize hgg : w.heap.size = g at HG
    have HGE := Lib.hid hgg
    clear g0 g1
    go_loopw [5] (fun i5 wr => ∃ i : Nat, i ≤ n ∧ i5 = .int .i64 i ∧ Hid ((∀ j, j < i → (l.getD j noPl).n ≤ 100 ∧ (l.getD j noPl).m ≤ 100) ∧ Below y0.heap.size y0 wr)) (fun i5 _ => n - (intOf i5).toNat)
    case atStart => exact ⟨0, Nat.zero_le _, rfl, Lib.hid ⟨fun j h => absurd h (Nat.not_lt_zero _), Below.refl _ _⟩⟩
    case round =>
      obtain ⟨i, hi, rfl, HQ⟩ := hrel
      by_cases hil : i < n
      · have hil2 : (i : Int) < (n : Int) := by omega
        obtain ⟨b, off, hA, hc⟩ := (HL.out.later HQ.out.2).cells i hil
        subst hA
        have hc8 : wr.cell? ⟨b, off + i * 13 + 8, none⟩ = some (.slice (l.getD i noPl).A (l.getD i noPl).n (l.getD i noPl).c) := hc 8 (by rw [Pl.size]; decide)
        have hc9 : wr.cell? ⟨b, off + i * 13 + 9, none⟩ = some (.slice (l.getD i noPl).B (l.getD i noPl).m (l.getD i noPl).k) := hc 9 (by rw [Pl.size]; decide)
        clear hc
        have HUP : Hid ((l.getD i noPl).n ≤ 100 → (l.getD i noPl).m ≤ 100 → ∀ j, j < i + 1 → (l.getD j noPl).n ≤ 100 ∧ (l.getD j noPl).m ≤ 100) := Lib.hid fun k1 k2 j hj => by
          by_cases he : j = i
          · rw [he]; exact ⟨k1, k2⟩
          · exact HQ.out.1 j (by omega)
        generalize (l.getD i noPl).n = pn at *
        generalize (l.getD i noPl).m = pm at *
        by_cases hp : pn ≤ 100 ∧ pm ≤ 100
        · obtain ⟨hp1, hp2⟩ := hp
          have b0 : decide ((pn : Int) > 100) = false := decide_eq_false (by omega)
          have b1 : decide ((pm : Int) > 100) = false := decide_eq_false (by omega)
          have b2 : ¬ (100 : Int) < (pn : Int) := by omega
          have b3 : ¬ (100 : Int) < (pm : Int) := by omega
          go_wp2_with fail
          exact ⟨⟨i + 1, by omega, by go_num, Lib.hid ⟨HUP.out hp1 hp2, HQ.out.2⟩⟩, by simp [intOf]; omega⟩
        · have HAY : Hid (Calls Try.prog 7 #[] wr (SaysL (.bool true) wr)) := Lib.hid (HAW.out wr (HNW.out.trans (HQ.out.2.mono HNW.out.size)))
          have HBW : Hid (Below w.heap.size w wr) := Lib.hid (HNW.out.trans (HQ.out.2.mono HNW.out.size))
          clear HUP
          by_cases hp1 : pn ≤ 100
          · have b0 : decide ((pn : Int) > 100) = false := decide_eq_false (by omega)
            have b2 : ¬ (100 : Int) < (pn : Int) := by omega
            have hp2 : ¬ pm ≤ 100 := fun h => hp ⟨hp1, h⟩
            have b1 : decide ((pm : Int) > 100) = true := decide_eq_true (by omega)
            have b3 : (100 : Int) < (pm : Int) := by omega
            clear hp hp1 hp2
            go_wp2_with fail
            refine HAY.out.mono ?_
            rintro e w1 ⟨rfl, hb⟩
            have HB1 := Lib.hid (HBW.out.trans (hb.mono HBW.out.size)); clear hb
            go_wp2_with fail
            go_ret
            exact ⟨rfl, HB1.out⟩
          · have b0 : decide ((pn : Int) > 100) = true := decide_eq_true (by omega)
            have b2 : (100 : Int) < (pn : Int) := by omega
            clear hp hp1
            go_wp2_with fail
            refine HAY.out.mono ?_
            rintro e w1 ⟨rfl, hb⟩
            have HB1 := Lib.hid (HBW.out.trans (hb.mono HBW.out.size)); clear hb
            go_wp2_with fail
            go_ret
            exact ⟨rfl, HB1.out⟩
      · have hil2 : ¬ (i : Int) < (n : Int) := by omega
        have hie : i = n := by omega
        have HFP : Hid (∀ p ∈ l, Few p.s) := Lib.hid fun p hp => by
          obtain ⟨j, hj, he⟩ := List.mem_iff_getElem.1 hp
          have h1 := HQ.out.1 j (by have := HLN.out; omega)
          have h2 := HL.out.ok p hp
          rw [List.getD_eq_getElem?_getD, List.getElem?_eq_getElem hj, Option.getD_some, he] at h1
          exact ⟨by rw [h2.1.len]; omega, by rw [h2.2.len]; omega⟩
        have HY := Lib.hid HQ.out.2
        have HFS : Hid (∀ s ∈ l.map (·.s), Few s) := Lib.hid fun s hs => by
          obtain ⟨p, hp, he⟩ := List.mem_map.1 hs
          rw [← he]; exact HFP.out p hp
        clear HQ hie hi
        go_wp2_with fail
        refine wp_region_grow (by kernel_rfl) Later Later.refl (fun _ _ _ => Later.trans) [52, 53, 54] [([], 0), ([1, 2, 3, 4, 5, 7, 8, 9, 10], 6), ([], 11), ([12, 13, 14, 15, 16, 17, 19, 20, 21], 18), ([], 22), ([], 23), ([24, 25, 26, 27, 28, 29, 30, 32, 33, 34, 35, 36], 31), ([], 37), ([], 38), ([39, 40, 41, 43], 42), ([], 44), ([], 45), ([46, 47, 48, 50], 49), ([], 51)] (by kernel_rfl) (by kernel_rfl) (by kernel_rfl) ?_
        simp only [List.map_cons, List.map_nil, pick, List.getD_cons_zero, List.getD_cons_succ]
        replace HY : Hid (Below y0.heap.size y0 wr.drew) := Lib.hid HY.out.drew
        generalize wr.drew = z0 at *
        clear hil hil2
        refine wpGrow_cons ?_
        refine wpQuiet_nil ?_
        go_wp2_with fail
        refine (HAW.out z0 (HNW.out.trans (HY.out.mono HNW.out.size))).mono ?_
        rintro e z1 ⟨rfl, hb⟩
        have HF : Hid (Later z0 z1) := Lib.hid hb
        replace HY := Lib.hid (HY.out.trans (hb.mono HY.out.size))
        skip
        clear hb
        go_wp2_with fail
        refine pieceEnd_normal ⟨HF.out, ?_⟩
        clear HF
        refine wpGrow_cons ?_
        have hg0 : ∀ y, (fut Later z1 y).cell? ⟨g, 0, none⟩ = some (.int .i64 n0) := fun y => by have h := box_futs (F := Later) Later.refl (fun _ h => h.block _ (Nat.lt_of_lt_of_le (Array.getElem?_eq_some_iff.1 HG.out).1 HY.out.size)) ((HY.out.block _ (Array.getElem?_eq_some_iff.1 HG.out).1).trans HG.out) y 0; exact h
        have hg1 : ∀ y, (fut Later z1 y).cell? ⟨g, 1, none⟩ = some (.int .i64 n1) := fun y => by have h := box_futs (F := Later) Later.refl (fun _ h => h.block _ (Nat.lt_of_lt_of_le (Array.getElem?_eq_some_iff.1 HG.out).1 HY.out.size)) ((HY.out.block _ (Array.getElem?_eq_some_iff.1 HG.out).1).trans HG.out) y 1; exact h
        have hg2 : ∀ y, (fut Later z1 y).cell? ⟨g, 2, none⟩ = some (.int .i64 n2) := fun y => by have h := box_futs (F := Later) Later.refl (fun _ h => h.block _ (Nat.lt_of_lt_of_le (Array.getElem?_eq_some_iff.1 HG.out).1 HY.out.size)) ((HY.out.block _ (Array.getElem?_eq_some_iff.1 HG.out).1).trans HG.out) y 2; exact h
        repeat (go_big_quiet_step (fail))
        refine wpQuiet_nil ?_
        clear hg0 hg1 hg2
        go_wp2_with fail
        refine (H.of n0 n1 z1 HI.out.1 HI.out.2.1).mono ?_
        rintro e z2 ⟨rfl, hb⟩
        have HF : Hid (Later z1 z2) := Lib.hid hb
        replace HY := Lib.hid (HY.out.trans (hb.mono HY.out.size))
        skip
        clear hb
        go_wp2_with fail
        refine pieceEnd_normal ⟨HF.out, ?_⟩
        clear HF
        refine wpGrow_cons ?_
        refine wpQuiet_nil ?_
        go_wp2_with fail
        refine (refEOf_any n0 n1 z2 HI.out.1 HI.out.2.1).mono ?_
        rintro e z3 ⟨rfl, hb⟩
        have HF : Hid (Later z2 z3) := Lib.hid hb
        replace HY := Lib.hid (HY.out.trans (hb.mono HY.out.size))
        skip
        clear hb
        go_wp2_with fail
        refine pieceEnd_normal ⟨HF.out, ?_⟩
        clear HF
        refine wpGrow_cons ?_
        have hg0 : ∀ y, (fut Later z3 y).cell? ⟨g, 0, none⟩ = some (.int .i64 n0) := fun y => by have h := box_futs (F := Later) Later.refl (fun _ h => h.block _ (Nat.lt_of_lt_of_le (Array.getElem?_eq_some_iff.1 HG.out).1 HY.out.size)) ((HY.out.block _ (Array.getElem?_eq_some_iff.1 HG.out).1).trans HG.out) y 0; exact h
        have hg1 : ∀ y, (fut Later z3 y).cell? ⟨g, 1, none⟩ = some (.int .i64 n1) := fun y => by have h := box_futs (F := Later) Later.refl (fun _ h => h.block _ (Nat.lt_of_lt_of_le (Array.getElem?_eq_some_iff.1 HG.out).1 HY.out.size)) ((HY.out.block _ (Array.getElem?_eq_some_iff.1 HG.out).1).trans HG.out) y 1; exact h
        have hg2 : ∀ y, (fut Later z3 y).cell? ⟨g, 2, none⟩ = some (.int .i64 n2) := fun y => by have h := box_futs (F := Later) Later.refl (fun _ h => h.block _ (Nat.lt_of_lt_of_le (Array.getElem?_eq_some_iff.1 HG.out).1 HY.out.size)) ((HY.out.block _ (Array.getElem?_eq_some_iff.1 HG.out).1).trans HG.out) y 2; exact h
        repeat (go_big_quiet_step (fail))
        refine wpQuiet_nil ?_
        clear hg0 hg1 hg2
        go_wp2_with fail
        refine (H.upto A n c l n0 z3 (HL.out.later HY.out) (by omega)).mono ?_
        rintro e z4 ⟨A5, c5, l5, rfl, hm5, hr5, hb⟩
        have HF : Hid (Later z3 z4) := Lib.hid hb
        replace HY := Lib.hid (HY.out.trans (hb.mono HY.out.size))
        have HR5 := Lib.hid hr5; have HM5 := Lib.hid hm5
        have hl5 : l5.length ≤ n := by have h1 := map_len hm5; have h2 := until_len n0 (l.map (·.s)); rw [List.length_map, HLN.out] at h2; omega
        clear hm5 hr5
        clear hb
        go_wp2_with fail
        refine pieceEnd_normal ⟨HF.out, ?_⟩
        clear HF
        refine wpGrow_cons ?_
        refine wpQuiet_nil ?_
        go_wp2_with fail
        refine (refUntil_g A n c l n0 z4 (HL.out.later HY.out) (by omega) HFP.out).mono ?_
        rintro e z5 ⟨A6, c6, l6, rfl, hm6, hr6, hb⟩
        have HF : Hid (Later z4 z5) := Lib.hid hb
        replace HY := Lib.hid (HY.out.trans (hb.mono HY.out.size))
        have HSM := Lib.hid (sameList_few A5 l5.length c5 l5 A6 l6.length c6 l6 z5 (HR5.out.later hb) hr6 (by omega) (few_of HFS.out HM5.out (fun _ h => until_mem h)))
        rw [HM5.out, hm6, sameLB_self] at HSM
        clear hm6 hr6 HR5 HM5 hl5
        clear hb
        go_wp2_with fail
        refine pieceEnd_normal ⟨HF.out, ?_⟩
        clear HF
        refine wpGrow_cons ?_
        refine wpQuiet_nil ?_
        go_wp2_with fail
        refine (HSM.out).mono ?_
        rintro e z6 ⟨rfl, hb⟩
        have HF : Hid (Later z5 z6) := Lib.hid hb
        replace HY := Lib.hid (HY.out.trans (hb.mono HY.out.size))
        clear HSM
        clear hb
        go_wp2_with fail
        refine pieceEnd_normal ⟨HF.out, ?_⟩
        clear HF
        refine wpGrow_cons ?_
        have hg0 : ∀ y, (fut Later z6 y).cell? ⟨g, 0, none⟩ = some (.int .i64 n0) := fun y => by have h := box_futs (F := Later) Later.refl (fun _ h => h.block _ (Nat.lt_of_lt_of_le (Array.getElem?_eq_some_iff.1 HG.out).1 HY.out.size)) ((HY.out.block _ (Array.getElem?_eq_some_iff.1 HG.out).1).trans HG.out) y 0; exact h
        have hg1 : ∀ y, (fut Later z6 y).cell? ⟨g, 1, none⟩ = some (.int .i64 n1) := fun y => by have h := box_futs (F := Later) Later.refl (fun _ h => h.block _ (Nat.lt_of_lt_of_le (Array.getElem?_eq_some_iff.1 HG.out).1 HY.out.size)) ((HY.out.block _ (Array.getElem?_eq_some_iff.1 HG.out).1).trans HG.out) y 1; exact h
        have hg2 : ∀ y, (fut Later z6 y).cell? ⟨g, 2, none⟩ = some (.int .i64 n2) := fun y => by have h := box_futs (F := Later) Later.refl (fun _ h => h.block _ (Nat.lt_of_lt_of_le (Array.getElem?_eq_some_iff.1 HG.out).1 HY.out.size)) ((HY.out.block _ (Array.getElem?_eq_some_iff.1 HG.out).1).trans HG.out) y 2; exact h
        repeat (go_big_quiet_step (fail))
        refine wpQuiet_nil ?_
        clear hg0 hg1 hg2
        go_wp2_with fail
        refine (H.window A n c l n1 n2 z6 (HL.out.later HY.out) (by omega)).mono ?_
        rintro e z7 ⟨A5, c5, l5, rfl, hm5, hr5, hb⟩
        have HF : Hid (Later z6 z7) := Lib.hid hb
        replace HY := Lib.hid (HY.out.trans (hb.mono HY.out.size))
        have HR5 := Lib.hid hr5; have HM5 := Lib.hid hm5
        have hl5 : l5.length ≤ n := by have h1 := map_len hm5; have h2 := window_len n1 n2 (l.map (·.s)); rw [List.length_map, HLN.out] at h2; omega
        clear hm5 hr5
        clear hb
        go_wp2_with fail
        refine pieceEnd_normal ⟨HF.out, ?_⟩
        clear HF
        refine wpGrow_cons ?_
        refine wpQuiet_nil ?_
        go_wp2_with fail
        refine (refWindow_g A n c l n1 n2 z7 (HL.out.later HY.out) (by omega) HFP.out).mono ?_
        rintro e z8 ⟨A6, c6, l6, rfl, hm6, hr6, hb⟩
        have HF : Hid (Later z7 z8) := Lib.hid hb
        replace HY := Lib.hid (HY.out.trans (hb.mono HY.out.size))
        have HSM := Lib.hid (sameList_few A5 l5.length c5 l5 A6 l6.length c6 l6 z8 (HR5.out.later hb) hr6 (by omega) (few_of HFS.out HM5.out (fun _ h => (window_mem h).1)))
        rw [HM5.out, hm6, sameLB_self] at HSM
        clear hm6 hr6 HR5 HM5 hl5
        clear hb
        go_wp2_with fail
        refine pieceEnd_normal ⟨HF.out, ?_⟩
        clear HF
        refine wpGrow_cons ?_
        refine wpQuiet_nil ?_
        go_wp2_with fail
        refine (HSM.out).mono ?_
        rintro e z9 ⟨rfl, hb⟩
        have HF : Hid (Later z8 z9) := Lib.hid hb
        replace HY := Lib.hid (HY.out.trans (hb.mono HY.out.size))
        clear HSM
        clear hb
        go_wp2_with fail
        refine pieceEnd_normal ⟨HF.out, ?_⟩
        clear HF
        refine wpGrow_cons ?_
        have hg0 : ∀ y, (fut Later z9 y).cell? ⟨g, 0, none⟩ = some (.int .i64 n0) := fun y => by have h := box_futs (F := Later) Later.refl (fun _ h => h.block _ (Nat.lt_of_lt_of_le (Array.getElem?_eq_some_iff.1 HG.out).1 HY.out.size)) ((HY.out.block _ (Array.getElem?_eq_some_iff.1 HG.out).1).trans HG.out) y 0; exact h
        have hg1 : ∀ y, (fut Later z9 y).cell? ⟨g, 1, none⟩ = some (.int .i64 n1) := fun y => by have h := box_futs (F := Later) Later.refl (fun _ h => h.block _ (Nat.lt_of_lt_of_le (Array.getElem?_eq_some_iff.1 HG.out).1 HY.out.size)) ((HY.out.block _ (Array.getElem?_eq_some_iff.1 HG.out).1).trans HG.out) y 1; exact h
        have hg2 : ∀ y, (fut Later z9 y).cell? ⟨g, 2, none⟩ = some (.int .i64 n2) := fun y => by have h := box_futs (F := Later) Later.refl (fun _ h => h.block _ (Nat.lt_of_lt_of_le (Array.getElem?_eq_some_iff.1 HG.out).1 HY.out.size)) ((HY.out.block _ (Array.getElem?_eq_some_iff.1 HG.out).1).trans HG.out) y 2; exact h
        repeat (go_big_quiet_step (fail))
        refine wpQuiet_nil ?_
        clear hg0 hg1 hg2
        go_wp2_with fail
        refine (H.order A n c l z9 (HL.out.later HY.out) (by omega)).mono ?_
        rintro e z10 ⟨A5, c5, l5, rfl, hm5, hr5, hb⟩
        have HF : Hid (Later z9 z10) := Lib.hid hb
        replace HY := Lib.hid (HY.out.trans (hb.mono HY.out.size))
        have HR5 := Lib.hid hr5; have HM5 := Lib.hid hm5
        have hl5 : l5.length ≤ n := by have h1 := map_len hm5; have h2 := Nat.le_of_eq (orderS_len (l.map (·.s))); rw [List.length_map, HLN.out] at h2; omega
        clear hm5 hr5
        clear hb
        go_wp2_with fail
        refine pieceEnd_normal ⟨HF.out, ?_⟩
        clear HF
        refine wpGrow_cons ?_
        refine wpQuiet_nil ?_
        go_wp2_with fail
        refine (refOrder_any A n c l z10 (HL.out.later HY.out) (by omega) HFP.out).mono ?_
        rintro e z11 ⟨A6, c6, l6, rfl, hm6, hr6, hb⟩
        have HF : Hid (Later z10 z11) := Lib.hid hb
        replace HY := Lib.hid (HY.out.trans (hb.mono HY.out.size))
        have HSM := Lib.hid (sameList_few A5 l5.length c5 l5 A6 l6.length c6 l6 z11 (HR5.out.later hb) hr6 (by omega) (few_of HFS.out HM5.out (fun s h => (orderS_mem (l.map (·.s)) s).1 h)))
        rw [HM5.out, hm6, sameLB_self] at HSM
        clear hm6 hr6 HR5 HM5 hl5
        clear hb
        go_wp2_with fail
        refine pieceEnd_normal ⟨HF.out, ?_⟩
        clear HF
        refine wpGrow_cons ?_
        refine wpQuiet_nil ?_
        go_wp2_with fail
        refine (HSM.out).mono ?_
        rintro e z12 ⟨rfl, hb⟩
        have HF : Hid (Later z11 z12) := Lib.hid hb
        replace HY := Lib.hid (HY.out.trans (hb.mono HY.out.size))
        clear HSM
        clear hb
        go_wp2_with fail
        refine pieceEnd_normal ⟨HF.out, ?_⟩
        clear HF
        refine wpGrow_cons ?_
        have hg0 : ∀ y, (fut Later z12 y).cell? ⟨g, 0, none⟩ = some (.int .i64 n0) := fun y => by have h := box_futs (F := Later) Later.refl (fun _ h => h.block _ (Nat.lt_of_lt_of_le (Array.getElem?_eq_some_iff.1 HG.out).1 HY.out.size)) ((HY.out.block _ (Array.getElem?_eq_some_iff.1 HG.out).1).trans HG.out) y 0; exact h
        have hg1 : ∀ y, (fut Later z12 y).cell? ⟨g, 1, none⟩ = some (.int .i64 n1) := fun y => by have h := box_futs (F := Later) Later.refl (fun _ h => h.block _ (Nat.lt_of_lt_of_le (Array.getElem?_eq_some_iff.1 HG.out).1 HY.out.size)) ((HY.out.block _ (Array.getElem?_eq_some_iff.1 HG.out).1).trans HG.out) y 1; exact h
        have hg2 : ∀ y, (fut Later z12 y).cell? ⟨g, 2, none⟩ = some (.int .i64 n2) := fun y => by have h := box_futs (F := Later) Later.refl (fun _ h => h.block _ (Nat.lt_of_lt_of_le (Array.getElem?_eq_some_iff.1 HG.out).1 HY.out.size)) ((HY.out.block _ (Array.getElem?_eq_some_iff.1 HG.out).1).trans HG.out) y 2; exact h
        repeat (go_big_quiet_step (fail))
        refine wpQuiet_nil ?_
        clear hg0 hg1 hg2
        go_wp2_with fail
        refine (H.latest A n c l z12 (HL.out.later HY.out) (by omega)).mono ?_
        rintro e z13 ⟨rfl, hb⟩
        have HF : Hid (Later z12 z13) := Lib.hid hb
        replace HY := Lib.hid (HY.out.trans (hb.mono HY.out.size))
        skip
        clear hb
        go_wp2_with fail
        refine pieceEnd_normal ⟨HF.out, ?_⟩
        clear HF
        refine wpGrow_cons ?_
        refine wpQuiet_nil ?_
        go_wp2_with fail
        refine (refLatest_any A n c l z13 (HL.out.later HY.out) (by omega)).mono ?_
        rintro e z14 ⟨rfl, hb⟩
        have HF : Hid (Later z13 z14) := Lib.hid hb
        replace HY := Lib.hid (HY.out.trans (hb.mono HY.out.size))
        skip
        clear hb
        go_wp2_with fail
        refine pieceEnd_normal ⟨HF.out, ?_⟩
        clear HF
        refine wpGrow_nil ?_
        repeat (go_big_quiet_step (fail))
        refine wpQuiet_nil ?_
        go_wp2_with fail
        go_ret
        exact ⟨rfl, HNW.out.trans (HY.out.mono HNW.out.size)⟩
  · have g0 : decide ((n : Int) > 20) = true := decide_eq_true (by omega)
    have g1 : (20 : Int) < (n : Int) := by omega
    go_wp2_with fail
    refine (HAW.out _ HNW.out).mono ?_
    rintro e w1 ⟨rfl, hb⟩
    have HB1 := Lib.hid (HNW.out.trans (hb.mono HNW.out.size)); clear hb
    go_wp2_with fail
    go_ret
    exact ⟨rfl, HB1.out⟩
end Go.Proofs.Ytdeojmgcofakeaa
/- What a law's arguments are as rows of cells; what is asked of them behind the call. Plain facts over any program. -/
namespace Go.Proofs.Ytdeojmgcofakeaa
open Go.ChangeShapes Go.WideShapes Go.ChangeAt Go.RowKit
section
variable {H : Type} {enc : TypeId × Value → H} {P : Program} {W W' : World}
/-- A slice of numbers of one kind that came in. -/
theorem open_nums {t e : TypeId} {k : IntKind} (ht : P.underlying t = some (.slice e)) (he : P.underlying e = some (.int k)) (hc : P.cellsOf e = 1) {base : Nat} {v : Value} {d : DataW H} {p : List MemPlace}
    (hval : Value.okWide P W .any base t v) (h : DataW.Trod enc P W 0 (fun _ => true) true t v d p) :
    ∃ (A : Option Addr) (n c : Nat) (zs : List Int), v = .slice A n c ∧ zs.length = n ∧ Row W A n c 1 (zs.map (Value.int k)) ∧ c ≤ maxLen ∧ ∀ z ∈ zs, (Lit.int k z).wf = true := by
  obtain ⟨a1, len, cap, rfl⟩ := okWide_slice ht hval
  obtain ⟨fuel, hf⟩ := h
  rcases open_ints ht he hc hf with ⟨hcs, hx⟩ | ⟨a, len', cap', zs, hcs, _, hl, hm, hz, hx, hcell, hwz⟩
  · simp [Value.cells] at hcs
    obtain ⟨rfl, rfl, rfl⟩ := hcs
    exact ⟨none, 0, 0, [], rfl, rfl, Row.nilRow _ _, Nat.zero_le _, fun _ h => by cases h⟩
  · simp [Value.cells] at hcs
    obtain ⟨rfl, rfl, rfl⟩ := hcs
    simp only [if_true] at hz
    refine ⟨some a, len, cap, zs.take len, rfl, by rw [List.length_take]; omega, ⟨by simp; omega, hl, fun e => (by cases e), fun ad e h0 => ?_⟩, hm, fun z hz' => hwz z (List.mem_of_mem_take hz')⟩
    injection e with e; subst e
    obtain ⟨ab, ao, spot⟩ := a
    have hspot : spot = none := by simpa [Addr.add] using World.cell?_spot (hcell 0 (by omega))
    subst hspot
    refine ⟨ab, ao, rfl, fun i hi => ?_⟩
    rw [Nat.mul_one] at hi
    have := hcell i (by omega)
    rw [Addr.add_lit] at this
    rw [this, List.getElem?_map, List.getElem?_take, if_pos hi, List.getElem?_eq_getElem (by omega)]
    simp [show i < zs.length by omega]
theorem open_i64s {t e : TypeId} (ht : P.underlying t = some (.slice e)) (he : P.underlying e = some (.int .i64)) (hc : P.cellsOf e = 1) {base : Nat} {v : Value} {d : DataW H} {p : List MemPlace}
    (hval : Value.okWide P W .any base t v) (h : DataW.Trod enc P W 0 (fun _ => true) true t v d p) : ∃ (A : Option Addr) (n c : Nat) (l : List Int), v = .slice A n c ∧ Row W A n c 1 (intsV l) ∧ c ≤ maxLen ∧ ∀ z ∈ l, -9223372036854775808 ≤ z ∧ z ≤ 9223372036854775807 := by
  obtain ⟨A, n, c, zs, rfl, _, hr, hm, hw⟩ := open_nums ht he hc hval h
  exact ⟨A, n, c, zs, rfl, hr, hm, fun z hz => bounds_i64 (hw z hz)⟩
theorem trodAll_below (hl : laidOutB P = true) (hb : Below W.heap.size W W') : ∀ {ts : List TypeId} {vs : List Value} {ds : List (DataW H)} {ps : List MemPlace}, (ts.all fun t => P.readableRec t && decide (t < P.types.size)) = true →
    DataW.TrodAll enc P W 0 (fun _ => true) true ts vs ds ps → DataW.TrodAll enc P W' 0 (fun b => decide (b < W.heap.size)) true ts vs ds ps
  | [], [], [], _, _, h => h
  | t :: ts, v :: vs, d :: ds, ps, hB, h => by
    have hlt := DataW.TrodAll.lt h
    obtain ⟨a, b, h1, h2, e⟩ := h
    simp only [List.all_cons, Bool.and_eq_true, decide_eq_true_eq] at hB
    subst e
    exact ⟨a, b, Below.trod hl hB.1.1 hB.1.2 h1 hb (fun x hx => hlt x (List.mem_append_left _ hx)), trodAll_below hl hb (by simpa using hB.2) h2, rfl⟩
/-- Behind a law that answered true and left below the old heap all as it was. -/
theorem law_post {f : Func} {s : ChangeSpec} {tb : TypeId} (hl : laidOutB P = true) (hres : f.resultTypes = #[tb]) (htb : P.underlying tb = some .bool) (hts : (f.params.toList.all fun t => P.readableRec t && decide (t < P.types.size)) = true) (hv : s.vars = [])
    {args : Array Value} {ds gs : List (DataW H)} {before : List MemPlace} (hW : DataW.Whole enc P f.params.toList s.vars false W args.toList ds gs before) (hfn : s.fn H (ds ++ gs) = { results := [.lit (.bool true)], args := ds }) (hb : Below W.heap.size W W') :
    ∃ v, Ending.returned (.bool true) = Ending.returned v ∧ s.post enc P f false true false false W args v W' := by
  have hW' := hW
  obtain ⟨p, q, hA, hV, rfl, _, _⟩ := hW
  refine ⟨_, rfl, ds, gs, _, [], p, [], hW', ?_, ?_, ?_, hb.frame _, fun h => by cases h⟩
  · rw [hfn, hres]; exact trodAll_mk1 (shut_bool htb _)
  · rw [hfn]; exact trodAll_below hl hb hts hA
  · rw [hfn, hv]; exact rfl
end
end Go.Proofs.Ytdeojmgcofakeaa
/- A statement that came in as an argument: its parts and how much it is. -/
namespace Go.Proofs.Ytdeojmgcofakeaa
open Go.ChangeShapes Go.WideShapes Go.RowKit Go.Deep
section
variable {H : Type} {enc : TypeId × Value → H} {W : World}
theorem bulk_app (l r : List (DataW H)) : Rows.uptoBulkAll (l ++ r) = Rows.uptoBulkAll l + Rows.uptoBulkAll r := by
  induction l with
  | nil => simp [Rows.uptoBulkAll]
  | cons x l ih => simp only [List.cons_append, Rows.uptoBulkAll, ih]; omega
theorem cellsPin : Try.prog.cellsOf 72 = 3 := by kernel_rfl
theorem cellsStm : Try.prog.cellsOf 30 = 13 := by kernel_rfl
theorem cellsSeal : Try.prog.cellsOf 28 = 2 := by kernel_rfl
theorem cellsInt : Try.prog.cellsOf 3 = 1 := by kernel_rfl
theorem cellsStr : Try.prog.cellsOf 9 = 1 := by kernel_rfl
theorem cellsInts : Try.prog.cellsOf 25 = 1 := by kernel_rfl
theorem cellsPins : Try.prog.cellsOf 26 = 1 := by kernel_rfl
theorem part_at {t : TypeId} {n k z : Nat} {cs l : List Value} {y : Option (DataW H × List MemPlace)} (hc : Try.prog.cellsOf t = z) (h : DataW.trod enc Try.prog W 0 (fun _ => true) true n t (List.take (Try.prog.cellsOf t) (List.drop k cs)) = y) (hd : List.take z (List.drop k cs) = l) :
    DataW.trod enc Try.prog W 0 (fun _ => true) true n t l = y := by
  rw [hc, hd] at h; exact h
/-- A slice of ints among the parts of an argument. -/
theorem part_ints {fuel : Nat} {v : Value} {x : DataW H × List MemPlace} (h : DataW.trod enc Try.prog W 0 (fun _ => true) true fuel 25 [v] = some x) :
    ∃ (A : Option Addr) (n c : Nat) (l : List Int), v = .slice A n c ∧ IRow W A n c l := by
  rcases open_ints Try.underlying25 Try.underlying3 cellsInt h with ⟨hcs, hx⟩ | ⟨a, len, cap, zs, hcs, _, hl, hm, hz, hx, hcell, hwz⟩
  · injection hcs with e _
    exact ⟨none, 0, 0, [], e, Row.nilRow _ _⟩
  · injection hcs with e _
    simp only [if_true] at hz
    refine ⟨some a, len, cap, zs.take len, e, ⟨by rw [intsV_len, List.length_take]; omega, hl, fun e => (by cases e), fun ad e h0 => ?_⟩⟩
    injection e with e; subst e
    obtain ⟨ab, ao, spot⟩ := a
    have hspot : spot = none := by simpa [Addr.add] using World.cell?_spot (hcell 0 (by omega))
    subst hspot
    refine ⟨ab, ao, rfl, fun i hi => ?_⟩
    rw [Nat.mul_one] at hi
    have := hcell i (by omega)
    rw [Addr.add_lit] at this
    rw [this, intsV, List.getElem?_map, List.getElem?_take, if_pos hi, List.getElem?_eq_getElem (by omega)]
    simp [show i < zs.length by omega, iv]
set_option maxRecDepth 100000 in
/-- A pin among the parts of an argument. -/
theorem part_pin {fuel : Nat} {cs : List Value} {x : DataW H × List MemPlace} (h : DataW.trod enc Try.prog W 0 (fun _ => true) true fuel 72 cs = some x) :
    ∃ p : PinD, cs = pinC p ∧ Rows.uptoBulk x.1 = p.digest.size + 4 := by
  obtain ⟨xs, n, _, hx, hlen, hxl, hg⟩ := DataW.trod_struct Try.underlying72 h
  rw [cellsPin] at hlen
  match cs, hlen with
  | [c0, c1, c2], _ =>
    match xs, hxl with
    | [y0, y1, y2], _ =>
      have g0 : DataW.trod enc Try.prog W 0 (fun _ => true) true n 3 [c0] = some y0 := part_at (k := 0) cellsInt (hg 0 _ rfl) rfl
      have g1 : DataW.trod enc Try.prog W 0 (fun _ => true) true n 3 [c1] = some y1 := part_at (k := 1) cellsInt (hg 1 _ rfl) rfl
      have g2 : DataW.trod enc Try.prog W 0 (fun _ => true) true n 9 [c2] = some y2 := part_at (k := 2) cellsStr (hg 2 _ rfl) rfl
      obtain ⟨a0, e0, f0, _⟩ := DataW.trod_int Try.underlying3 g0
      obtain ⟨a1, e1, f1, _⟩ := DataW.trod_int Try.underlying3 g1
      obtain ⟨a2, e2, f2, _⟩ := DataW.trod_string Try.underlying9 g2
      injection e0 with e0 _; injection e1 with e1 _; injection e2 with e2 _
      refine ⟨⟨a0, a1, a2⟩, by rw [e0, e1, e2]; rfl, ?_⟩
      rw [hx, f0, f1, f2]
      simp only [List.map_cons, List.map_nil, Rows.uptoBulk, Rows.uptoBulkAll, str_len]
      omega
theorem pins_bulk (P : Nat → PinD) (D : Nat → DataW H) : ∀ k, (∀ i, i < k → Rows.uptoBulk (D i) = (P i).digest.size + 4) →
    (pinsBs ((List.range k).map P)).length ≤ 24 * k + Rows.uptoBulkAll ((List.range k).map D)
  | 0, _ => by simp [pinsBs]
  | k + 1, h => by
    have ih := pins_bulk P D k (fun i hi => h i (by omega))
    have hk := h k (by omega)
    rw [List.range_succ, List.map_append, List.map_append, pinsBs_app, bulk_app, List.length_append]
    simp only [List.map_cons, List.map_nil, Rows.uptoBulkAll]
    have h2 : (pinsBs [P k]).length = 24 + (P k).digest.size := by
      simp only [pinsBs, List.flatMap_cons, List.flatMap_nil, List.append_nil, pinBs, List.length_append, listB_len, textS_len, List.length_cons, List.length_nil]
      omega
    omega
/-- A slice of pins among the parts of an argument. -/
theorem part_pins {fuel : Nat} {v : Value} {x : DataW H × List MemPlace} (h : DataW.trod enc Try.prog W 0 (fun _ => true) true fuel 26 [v] = some x) :
    ∃ (B : Option Addr) (m k : Nat) (l : List PinD), v = .slice B m k ∧ PRow W B m k l ∧ (pinsBs l).length ≤ 24 * l.length + Rows.uptoBulk x.1 := by
  rcases open_slice Try.underlying26 h with ⟨hcs, hx⟩ | ⟨a, len, cap, m, n, D, Pl, hcs, _, hl, _, hm, hx, hi⟩
  · injection hcs with e _
    exact ⟨none, 0, 0, [], e, Row.nilRow _ _, by simp [pinsBs]⟩
  · injection hcs with e _
    simp only [if_true] at hm
    subst hm
    rw [cellsPin] at hi
    have hall : ∀ i, ∃ p : PinD, i < m → Rows.uptoBulk (D i) = p.digest.size + 4 ∧ ∀ j, j < 3 → W.cell? (a.add (i * 3 + j)) = (pinC p)[j]? := fun i => by
      by_cases hlt : i < m
      · obtain ⟨cs', hc, ht⟩ := hi i hlt
        obtain ⟨p, hp, hb⟩ := part_pin ht
        obtain ⟨_, _, hat⟩ := World.cells?_some hc
        refine ⟨p, fun _ => ⟨hb, fun j hj => ?_⟩⟩
        rw [← Go.Deep.add_add, hat j hj, hp]
      · exact ⟨noPin, fun h => absurd h hlt⟩
    obtain ⟨P, hP⟩ := Classical.skolem.1 hall
    refine ⟨some a, len, m, (List.range len).map P, e, ⟨by rw [pinsC_len, List.length_map, List.length_range], hl, fun e => (by cases e), fun ad e h0 => ?_⟩, ?_⟩
    · injection e with e; subst e
      obtain ⟨ab, ao, spot⟩ := a
      have hspot : spot = none := by
        have := (hP 0 h0).2 0 (by omega)
        simpa [Addr.add] using World.cell?_spot (this.trans rfl)
      subst hspot
      refine ⟨ab, ao, rfl, fun i hi => ?_⟩
      have hq : i / 3 < len := by omega
      have h1 := (hP (i / 3) (by omega)).2 (i % 3) (by omega)
      rw [Addr.add_lit, show i / 3 * 3 + i % 3 = i by omega] at h1
      rw [h1]
      have h2 : ∀ j, (pinsC ((List.range len).map P))[i / 3 * 3 + j]? = (pinsC (((List.range len).map P).drop (i / 3)))[j]? := fun j => by rw [← pinsC_drop, List.getElem?_drop]
      have h3 := h2 (i % 3)
      rw [show i / 3 * 3 + i % 3 = i by omega] at h3
      rw [h3, List.drop_eq_getElem_cons (by simpa using hq)]
      simp only [List.getElem_map, List.getElem_range]
      show _ = (pinC (P (i / 3)) ++ pinsC _)[i % 3]?
      rw [List.getElem?_append_left (by show i % 3 < 3; omega)]
    · have hb := pins_bulk P D len (fun i hi => (hP i (by omega)).1)
      rw [hx]
      simp only [Rows.uptoBulk, List.length_map, List.length_range]
      omega
end
end Go.Proofs.Ytdeojmgcofakeaa
/- A list of statements that came in as an argument. -/
namespace Go.Proofs.Ytdeojmgcofakeaa
open Go.ChangeShapes Go.WideShapes Go.RowKit Go.Deep
section
variable {H : Type} {enc : TypeId × Value → H} {W : World}
set_option maxRecDepth 100000 in
/-- A statement among the elements of an argument. -/
theorem part_stm {fuel : Nat} {cs : List Value} {x : DataW H × List MemPlace} (h : DataW.trod enc Try.prog W 0 (fun _ => true) true fuel 30 cs = some x) :
    ∃ p : Pl, cs = p.cells ∧ PlOk W p := by
  obtain ⟨xs, n, _, _, hlen, hxl, hg⟩ := DataW.trod_struct Try.underlying30 h
  rw [cellsStm] at hlen
  match cs, hlen with
  | [c0, c1, c2, c3, c4, c5, c6, c7, c8, c9, c10, c11, c12], _ =>
    match xs, hxl with
    | [y0, y1, y2, y3, y4, y5, y6, y7, y8, y9, y10, y11], _ =>
      have g0 : DataW.trod enc Try.prog W 0 (fun _ => true) true n 3 [c0] = some y0 := part_at (k := 0) cellsInt (hg 0 _ rfl) rfl
      have g1 : DataW.trod enc Try.prog W 0 (fun _ => true) true n 3 [c1] = some y1 := part_at (k := 1) cellsInt (hg 1 _ rfl) rfl
      have g2 : DataW.trod enc Try.prog W 0 (fun _ => true) true n 9 [c2] = some y2 := part_at (k := 2) cellsStr (hg 2 _ rfl) rfl
      have g3 : DataW.trod enc Try.prog W 0 (fun _ => true) true n 3 [c3] = some y3 := part_at (k := 3) cellsInt (hg 3 _ rfl) rfl
      have g4 : DataW.trod enc Try.prog W 0 (fun _ => true) true n 3 [c4] = some y4 := part_at (k := 4) cellsInt (hg 4 _ rfl) rfl
      have g5 : DataW.trod enc Try.prog W 0 (fun _ => true) true n 3 [c5] = some y5 := part_at (k := 5) cellsInt (hg 5 _ rfl) rfl
      have g6 : DataW.trod enc Try.prog W 0 (fun _ => true) true n 3 [c6] = some y6 := part_at (k := 6) cellsInt (hg 6 _ rfl) rfl
      have g7 : DataW.trod enc Try.prog W 0 (fun _ => true) true n 3 [c7] = some y7 := part_at (k := 7) cellsInt (hg 7 _ rfl) rfl
      have g8 : DataW.trod enc Try.prog W 0 (fun _ => true) true n 25 [c8] = some y8 := part_at (k := 8) cellsInts (hg 8 _ rfl) rfl
      have g9 : DataW.trod enc Try.prog W 0 (fun _ => true) true n 26 [c9] = some y9 := part_at (k := 9) cellsPins (hg 9 _ rfl) rfl
      have g10 : DataW.trod enc Try.prog W 0 (fun _ => true) true n 9 [c10] = some y10 := part_at (k := 10) cellsStr (hg 10 _ rfl) rfl
      have g11 : DataW.trod enc Try.prog W 0 (fun _ => true) true n 28 [c11, c12] = some y11 := part_at (k := 11) cellsSeal (hg 11 _ rfl) rfl
      obtain ⟨a0, e0, _, _⟩ := DataW.trod_int Try.underlying3 g0
      obtain ⟨a1, e1, _, _⟩ := DataW.trod_int Try.underlying3 g1
      obtain ⟨a2, e2, _, _⟩ := DataW.trod_string Try.underlying9 g2
      obtain ⟨a3, e3, _, _⟩ := DataW.trod_int Try.underlying3 g3
      obtain ⟨a4, e4, _, _⟩ := DataW.trod_int Try.underlying3 g4
      obtain ⟨a5, e5, _, _⟩ := DataW.trod_int Try.underlying3 g5
      obtain ⟨a6, e6, _, _⟩ := DataW.trod_int Try.underlying3 g6
      obtain ⟨a7, e7, _, _⟩ := DataW.trod_int Try.underlying3 g7
      obtain ⟨A, n8, k8, l8, e8, r8⟩ := part_ints g8
      obtain ⟨B, n9, k9, l9, e9, r9, _⟩ := part_pins g9
      obtain ⟨a10, e10, _, _⟩ := DataW.trod_string Try.underlying9 g10
      obtain ⟨xs2, n2, _, _, _, hlen2, hg2⟩ := DataW.trod_struct Try.underlying28 g11
      match xs2, hlen2 with
      | [z0, z1], _ =>
        have q0 : DataW.trod enc Try.prog W 0 (fun _ => true) true n2 3 [c11] = some z0 := part_at (k := 0) cellsInt (hg2 0 _ rfl) rfl
        have q1 : DataW.trod enc Try.prog W 0 (fun _ => true) true n2 9 [c12] = some z1 := part_at (k := 1) cellsStr (hg2 1 _ rfl) rfl
        obtain ⟨a11, e11, _, _⟩ := DataW.trod_int Try.underlying3 q0
        obtain ⟨a12, e12, _, _⟩ := DataW.trod_string Try.underlying9 q1
        injection e0 with e0 _; injection e1 with e1 _; injection e2 with e2 _; injection e3 with e3 _; injection e4 with e4 _; injection e5 with e5 _; injection e6 with e6 _; injection e7 with e7 _
        injection e10 with e10 _; injection e11 with e11 _; injection e12 with e12 _
        exact ⟨⟨⟨a0, a1, a2, a3, a4, a5, a6, a7, l8, l9, a10, a11, a12⟩, A, n8, k8, B, n9, k9⟩, by rw [e0, e1, e2, e3, e4, e5, e6, e7, e8, e9, e10, e11, e12]; rfl, r8, r9⟩
set_option maxRecDepth 100000 in
/-- A list of statements that came in. -/
theorem open_stms {base : Nat} {v : Value} {d : DataW H} {p : List MemPlace} (hval : Value.okWide Try.prog W .any base 22 v) (h : DataW.Trod enc Try.prog W 0 (fun _ => true) true 22 v d p) :
    ∃ (A : Option Addr) (n c : Nat) (l : List Pl), v = .slice A n c ∧ LRow W A n c l := by
  obtain ⟨a1, len, cap, rfl⟩ := okWide_slice Try.underlying22 hval
  obtain ⟨fuel, hf⟩ := h
  rcases open_slice Try.underlying22 hf with ⟨hcs, _⟩ | ⟨a, len', cap', m, n, D, Q, hcs, _, hl, _, hm, _, hi⟩
  · simp [Value.cells] at hcs
    obtain ⟨rfl, rfl, rfl⟩ := hcs
    exact ⟨none, 0, 0, [], rfl, LRow.nil _⟩
  · simp [Value.cells] at hcs
    obtain ⟨rfl, rfl, rfl⟩ := hcs
    simp only [if_true] at hm
    subst hm
    rw [cellsStm] at hi
    have hall : ∀ i, ∃ p : Pl, i < m → PlOk W p ∧ ∀ j, j < 13 → W.cell? (a.add (i * 13 + j)) = p.cells[j]? := fun i => by
      by_cases hlt : i < m
      · obtain ⟨cs', hc, ht⟩ := hi i hlt
        obtain ⟨p, hp, ho⟩ := part_stm ht
        obtain ⟨_, _, hat⟩ := World.cells?_some hc
        refine ⟨p, fun _ => ⟨ho, fun j hj => ?_⟩⟩
        rw [← Go.Deep.add_add, hat j hj, hp]
      · exact ⟨noPl, fun h => absurd h hlt⟩
    obtain ⟨P, hP⟩ := Classical.skolem.1 hall
    refine ⟨some a, len, m, (List.range len).map P, rfl, ⟨⟨by rw [plsC_len, List.length_map, List.length_range], hl, fun e => (by cases e), fun ad e h0 => ?_⟩, fun p hp => ?_⟩⟩
    · injection e with e; subst e
      obtain ⟨ab, ao, spot⟩ := a
      have hspot : spot = none := by
        have := (hP 0 (by omega)).2 0 (by omega)
        simpa [Addr.add] using World.cell?_spot (this.trans rfl)
      subst hspot
      refine ⟨ab, ao, rfl, fun i hi => ?_⟩
      have hq : i / 13 < len := by omega
      have h1 := (hP (i / 13) (by omega)).2 (i % 13) (by omega)
      rw [Addr.add_lit, show i / 13 * 13 + i % 13 = i by omega] at h1
      rw [h1]
      have h2 : ∀ j, (plsC ((List.range len).map P))[i / 13 * 13 + j]? = (plsC (((List.range len).map P).drop (i / 13)))[j]? := fun j => by rw [← plsC_drop, List.getElem?_drop]
      have h3 := h2 (i % 13)
      rw [show i / 13 * 13 + i % 13 = i by omega] at h3
      rw [h3, List.drop_eq_getElem_cons (by simpa using hq)]
      simp only [List.getElem_map, List.getElem_range]
      show _ = ((P (i / 13)).cells ++ plsC _)[i % 13]?
      rw [List.getElem?_append_left (by show i % 13 < 13; omega)]
    · obtain ⟨i, hi, rfl⟩ := List.mem_map.1 hp
      exact (hP i (by have := List.mem_range.1 hi; omega)).1
/-- Three numbers that came in. -/
theorem cellsThree : Try.prog.cellsOf 23 = 3 := by kernel_rfl
set_option maxRecDepth 100000 in
theorem open_three {base : Nat} {v : Value} {d : DataW H} {p : List MemPlace} (hval : Value.okWide Try.prog W .any base 23 v) (h : DataW.Trod enc Try.prog W 0 (fun _ => true) true 23 v d p) :
    ∃ a b c : Int, v = .agg #[.int .i64 a, .int .i64 b, .int .i64 c] ∧ (-9223372036854775808 ≤ a ∧ a ≤ 9223372036854775807) ∧ (-9223372036854775808 ≤ b ∧ b ≤ 9223372036854775807) ∧ (-9223372036854775808 ≤ c ∧ c ≤ 9223372036854775807) := by
  simp only [Value.okWide, Try.underlying23] at hval
  obtain ⟨cs, rfl, hsz, _⟩ := hval
  obtain ⟨l⟩ := cs
  match l, hsz.trans cellsThree with
  | [c0, c1, c2], _ =>
    obtain ⟨fuel, hf⟩ := h
    have hf2 : DataW.trod enc Try.prog W 0 (fun _ => true) true fuel 23 [c0, c1, c2] = some (d, p) := hf
    obtain ⟨y0, y1, y2, n, _, g0, g1, g2⟩ := trod_array3 Try.underlying23 cellsInt hf2
    obtain ⟨a0, e0, _, w0⟩ := DataW.trod_int Try.underlying3 g0
    obtain ⟨a1, e1, _, w1⟩ := DataW.trod_int Try.underlying3 g1
    obtain ⟨a2, e2, _, w2⟩ := DataW.trod_int Try.underlying3 g2
    injection e0 with e0 _; injection e1 with e1 _; injection e2 with e2 _
    exact ⟨a0, a1, a2, by rw [e0, e1, e2], bounds_i64 w0, bounds_i64 w1, bounds_i64 w2⟩
end
end Go.Proofs.Ytdeojmgcofakeaa
/-
  PROVED: for every input the law EpochRaw returns true and leaves its arguments as they were. Conditions: none but the row's own.
-/
namespace Go.Proofs.Ytdeojmgcofakeaa.epochRaw
open Go.ChangeShapes Go.WideShapes Go.ChangeAt Go.RowKit
theorem own : ownKnob Try.prog.godebug = none := by kernel_rfl
theorem laidOut : laidOutB Try.prog = true := by kernel_rfl
theorem cellsI : Try.prog.cellsOf 3 = 1 := by kernel_rfl
set_option maxRecDepth 100000 in
theorem lifted (H9 : EpochC) (os : Os) (started : os.Started) (H : Type) (enc : TypeId × Value → H) :
    ReturnsInHanded {} Try.checked os 3 .any (Rows.epochRawSpec.pre6 enc Try.prog Try.f3 Rows.epochRawRow.domain false) (Rows.epochRawSpec.post enc Try.prog Try.f3 false true false false) := by
  refine returnsInHanded_of_change (C := Try.checked) own started (by kernel_rfl) Try.func3
    (ChangeSpec.witness6 (enc := enc) (C := Try.checked) false ⟨#[], #[.slice none 0 0, .agg #[.int .i64 0, .int .i64 0, .int .i64 0]], []⟩ 8 (by kernel_rfl) (by kernel_rfl) (by kernel_rfl) (by kernel_rfl)) ?_
  intro W base args ds gs before hval hW _ _
  have hW' := hW
  obtain ⟨p, q, hA, hV, rfl, _, _⟩ := hW
  rw [Try.params3] at hA hval
  obtain ⟨v0, v1, d0, d1, p0, p1, rfl, rfl, rfl, h0, h1⟩ := trodAll_two hA
  obtain ⟨rfl, rfl⟩ := trodVars_none hV
  obtain ⟨A, n, c, l, rfl, hr⟩ := open_stms (hval 0 22 v0 rfl rfl) h0
  obtain ⟨n0, n1, n2, rfl, w0, w1, w2⟩ := open_three (hval 1 23 v1 rfl rfl) h1
  refine (rawE_any H9 A n c l n0 n1 n2 W hr w0 w1 w2).mono fun e W' ⟨he, hb⟩ => ?_
  subst he
  exact law_post laidOut (by kernel_rfl) Try.underlying4 (by kernel_rfl) rfl hW' rfl hb
theorem over (H9 : EpochC) : Rows.EpochRawSaid :=
  OpenClaim.holds_of_wide 3 Try.f3 rfl rfl rfl rfl rfl rfl rfl ⟨rfl, rfl, rfl, rfl, rfl⟩ rfl rfl rfl rfl rfl (by kernel_rfl) Try.func3 (by kernel_rfl)
    (of_decide_eq_true (by kernel_rfl)) (by unfold Func.isWrapper; first | (rw [if_pos (by decide +kernel)]; kernel_rfl) | (rw [if_neg (by decide +kernel)]; exact ⟨rfl, rfl⟩))
    (fun os started H enc _ => lifted H9 os started H enc)
end Go.Proofs.Ytdeojmgcofakeaa.epochRaw
/-
  PROVED: for every input the law EpochMade returns true and leaves its arguments as they were. Conditions: none but the row's own.
-/
namespace Go.Proofs.Ytdeojmgcofakeaa.epochMade
open Go.ChangeShapes Go.WideShapes Go.ChangeAt Go.RowKit
theorem own : ownKnob Try.prog.godebug = none := by kernel_rfl
theorem laidOut : laidOutB Try.prog = true := by kernel_rfl
theorem cellsI : Try.prog.cellsOf 3 = 1 := by kernel_rfl
set_option maxRecDepth 100000 in
theorem lifted (H9 : EpochC) (os : Os) (started : os.Started) (H : Type) (enc : TypeId × Value → H) :
    ReturnsInHanded {} Try.checked os 4 .any (Rows.epochMadeSpec.pre6 enc Try.prog Try.f4 Rows.epochMadeRow.domain false) (Rows.epochMadeSpec.post enc Try.prog Try.f4 false true false false) := by
  refine returnsInHanded_of_change (C := Try.checked) own started (by kernel_rfl) Try.func4
    (ChangeSpec.witness6 (enc := enc) (C := Try.checked) false ⟨#[], #[.slice none 0 0, .int .i64 0], []⟩ 8 (by kernel_rfl) (by kernel_rfl) (by kernel_rfl) (by kernel_rfl)) ?_
  intro W base args ds gs before hval hW _ _
  have hW' := hW
  obtain ⟨p, q, hA, hV, rfl, _, _⟩ := hW
  rw [Try.params4] at hA hval
  obtain ⟨v0, v1, d0, d1, p0, p1, rfl, rfl, rfl, h0, h1⟩ := trodAll_two hA
  obtain ⟨rfl, rfl⟩ := trodVars_none hV
  obtain ⟨A, n, c, l, rfl, hr, _⟩ := open_i64s Try.underlying25 Try.underlying3 cellsI (hval 0 25 v0 rfl rfl) h0
  obtain ⟨a1, rfl, rfl, rfl, w1⟩ := open_int Try.underlying3 (hval 1 3 v1 rfl rfl) h1
  refine (madeE_any H9 A n c l a1 W hr).mono fun e W' ⟨he, hb⟩ => ?_
  subst he
  exact law_post laidOut (by kernel_rfl) Try.underlying4 (by kernel_rfl) rfl hW' rfl hb
theorem over (H9 : EpochC) : Rows.EpochMadeSaid :=
  OpenClaim.holds_of_wide 4 Try.f4 rfl rfl rfl rfl rfl rfl rfl ⟨rfl, rfl, rfl, rfl, rfl⟩ rfl rfl rfl rfl rfl (by kernel_rfl) Try.func4 (by kernel_rfl)
    (of_decide_eq_true (by kernel_rfl)) (by unfold Func.isWrapper; first | (rw [if_pos (by decide +kernel)]; kernel_rfl) | (rw [if_neg (by decide +kernel)]; exact ⟨rfl, rfl⟩))
    (fun os started H enc _ => lifted H9 os started H enc)
end Go.Proofs.Ytdeojmgcofakeaa.epochMade
