import Derived.Test.YtnmpbjgccbnomaaGreatPackAU
import Derived.Lib.Overlaps
import Derived.Test.YtnmpbjgccbnomaaGreatPackAC
import Derived.Lib.Bytealg
import Derived.Lib.Small
import Derived.Test.YtnmpbjgccbnomaaGreatPackAT
import Derived.Test.YtnmpbjgccbnomaaGreatPackAN
/- The walk of slices.Insert over edges. -/
namespace Go.Proofs.YtnmpbjgccbnomaaGreat
open Go.RowKit
theorem one_row3 {w : World} {h : Nat} {e : Edg} (hh : w.heap[h]? = some (.cells e.arr 53 (0, 0))) : Row w (some ⟨h, 0, none⟩) 1 1 3 e.cells := by
  have h1 := Row.of_block hh (n := 1) (sz := 3) rfl
  rwa [Edg.list] at h1
theorem rowC_one (e : Edg) (l : List Edg) : rowC Edg.cells (e :: l) = e.cells ++ rowC Edg.cells l := by simp [rowC]
/-- The row from i on. -/
theorem EBlk.tail {w : World} {B g n cap : Nat} {l : List Edg} {T : List Value} (h : EBlk w B g n cap l T) (i : Nat) (hi : i < n) : Row w (some ⟨g, i * 3, none⟩) (n - i) (cap - i) 3 (rowC Edg.cells (l.drop i)) := by
  have h1 := GRow.drop Edg.len h.row i (Nat.le_of_lt hi)
  have h2 := h.room
  rwa [show dropA (some ⟨g, 0, none⟩) cap i 3 = some ⟨g, i * 3, none⟩ by unfold dropA; rw [if_neg (by omega), Option.map_some, Addr.add_lit, Nat.zero_add]] at h1
set_option maxRecDepth 100000 in
set_option maxHeartbeats 4000000 in
theorem insertEd_any (B : Nat) (v : Value) (n i h : Nat) (l : List Edg) (e : Edg) (w : World) (ho : w.ownsRow B 53 3 v n (rowC Edg.cells l)) (hB : B ≤ w.heap.size) (hi : i ≤ n) (hn : n ≤ 100000) (hh : w.heap[h]? = some (.cells e.arr 53 (0, 0))) (hne : ∀ g, v.ownBlock = some g → g ≠ h) :
    Calls Tryz.prog 40 #[v, .int .i64 i, .slice (some ⟨h, 0, none⟩) 1 1] w fun x w' => ∃ v2, x = .returned v2 ∧ w'.ownsRow B 53 3 v2 (l.take i ++ e :: l.drop i).length (rowC Edg.cells (l.take i ++ e :: l.drop i)) ∧ Below B w w' := by
  have HO := Lib.hid ho
  have HH := Lib.hid hh
  obtain ⟨A, c, rfl, hr⟩ := Row.of_own ho
  have hln : l.length = n := ERow.len hr
  have hs0 := fun w' => run_slice_from (P := Tryz.prog) (t := 33) Tryz.underlying33 edg_size (A := A) (n := n) (c := c) (k := i) rfl hi .i64 w'
  by_cases hin : i = n
  · subst hin
    have b0 : ((i : Int) == (i : Int)) = true := by simp
    have HD : Hid (l.take i ++ e :: l.drop i = l ++ [e]) := Lib.hid (by rw [List.take_of_length_le (by omega), List.drop_eq_nil_of_le (by omega)])
    clear ho hr hh hne
    go_enter Tryz.func40, Tryz.ntmps40
    go_wp2_with (at_builtin; go_must (refine wpList_app w rfl (.tmp 23) (.tmp 24) 33 33 53 rfl B Tryz.underlying33 edg_info rfl _ i (rowC Edg.cells l) HO.out rfl _ 1 e.cells ((one_row3 HH.out).src Tryz.underlying33 e.ones) rfl (by unfold maxLen; omega) (by omega) hB ?_); intro v2 w2 ho2 hb2; have HO2 := Lib.hid ho2; have HB2 := Lib.hid hb2; clear ho2 hb2)
    go_ret
    rw [HD.out, List.length_append, hln, rowC_app, rowC_single]
    exact ⟨_, rfl, HO2.out, HB2.out⟩
  · have hlt : i < n := by omega
    have b0 : ((i : Int) == (n : Int)) = false := beq_eq_false_iff_ne.2 (by omega)
    obtain ⟨g, cap, T, hv, hek⟩ := eblk_of_own ho (by omega)
    injection hv with hv _ hv2
    subst hv hv2
    have hgh : g ≠ h := hne g rfl
    have HEK := Lib.hid hek
    have hnc := hek.room
    have HLO := Lib.hid hek.lo
    have HTL : Hid (T.length + n * 3 = c * 3) := Lib.hid (by have h := hek.size; rw [List.length_append, rowC_len Edg.len, hln] at h; omega)
    have HTI := Lib.hid (hek.tail i hlt)
    clear ho hr hh hne hin hek
    by_cases hroom : c < n + 1
    · have b1 : decide ((n : Int) + (1 : Int) > (c : Int)) = true := decide_eq_true (by omega)
      have b1' : decide ((c : Int) < (n : Int) + (1 : Int)) = true := b1
      have hs1 := fun w' => run_slice_low (P := Tryz.prog) (t := 33) Tryz.underlying33 edg_size (g := g) (n := n) (c := c) (i := i) rfl (by omega) .i64 w'
      have hrow := GRow.take Edg.len (by decide) HEK.out.row i hi
      have HRW := Lib.hid hrow
      clear hrow
      go_enter Tryz.func40, Tryz.ntmps40
      go_upto_region 10 with (at_builtin; go_must (refine wpList_app_zeros w rfl (.tmp 34) (.tmp 39) 33 3 53 rfl Tryz.underlying33 Tryz.underlying3 edg_info rfl (by decide) (some ⟨g, 0, none⟩) i c (rowC Edg.cells (l.take i)) HRW.out rfl (n + 1 - i) rfl (by omega) (by omega) (by omega) (by unfold maxLen; omega) (by omega) ?_); intro w2 cap2 tail hc1 hc2 hg2 hsz2 hb2; have HG2 := Lib.hid hg2; have HSZ2 := Lib.hid hsz2; have HB2 := Lib.hid hb2; have HC1 : Hid (n + 1 ≤ cap2) := Lib.hid (by omega); have HC2 := Lib.hid hc2; clear hc1 hc2 hg2 hsz2 hb2)
      have HEQ : Hid (i + (n + 1 - i) = n + 1) := Lib.hid (by omega)
      rw [HEQ.out]
      clear HEQ b1 b1' hs1 hs0
      have HH2 := Lib.hid ((HB2.out.block _ (Array.getElem?_eq_some_iff.1 HH.out).1).trans HH.out)
      have HTI2 := Lib.hid (HTI.out.later HB2.out)
      have HGN : Hid (g ≠ w.heap.size ∧ h ≠ w.heap.size) := Lib.hid ⟨Nat.ne_of_lt HEK.out.lt, Nat.ne_of_lt (Array.getElem?_eq_some_iff.1 HH.out).1⟩
      obtain ⟨g2, hgw⟩ : ∃ g2, w.heap.size = g2 := ⟨_, rfl⟩
      rw [hgw] at HG2 HGN ⊢
      have HGW := Lib.hid hgw
      clear hgw
      have hc1 := HC1.out
      have hs1 := fun w' => run_slice_off (P := Tryz.prog) (t := 33) Tryz.underlying33 edg_size (g := g2) (n := n + 1) (c := cap2) (i := i) rfl (by omega) (by omega) .i64 w'
      have hfit : (i + 1) * 3 ≤ (rowC Edg.cells (l.take i) ++ tail).length := by rw [HSZ2.out]; omega
      have htl : (l.take i).length = i := by rw [List.length_take]; omega
      have HTK : Hid ((rowC Edg.cells (l.take i) ++ tail).take (i * 3) = rowC Edg.cells (l.take i)) := Lib.hid (by rw [ecut (by omega), List.take_take, Nat.min_self])
      obtain ⟨w3, hcp, hg3, hb3⟩ := run_copy_rowE (P := Tryz.prog) w2 33 33 53 Tryz.underlying33 (size := 3) edg_size g2 i (n + 1 - i) (cap2 - i) (rowC Edg.cells (l.take i) ++ tail) HG2.out (some ⟨h, 0, none⟩) 1 1 1 e.cells 1 (by omega) (one_row3 HH2.out) e.ones hfit
      rw [HTK.out] at hg3
      have HG3 := Lib.hid hg3; have HB3 := Lib.hid hb3
      clear hg3 hb3
      go_upto_region 11 with fail
      clear hcp
      clear hs1 hfit
      have HL3 : Hid ((rowC Edg.cells (l.take i) ++ e.cells ++ (rowC Edg.cells (l.take i) ++ tail).drop ((i + 1) * 3)).length = cap2 * 3) := Lib.hid (by
        rw [List.length_append, List.length_append, List.length_drop, HSZ2.out, rowC_len Edg.len, htl, Edg.len]; omega)
      have HL4 : Hid ((rowC Edg.cells (l.take i) ++ e.cells).length = (i + 1) * 3) := Lib.hid (by rw [List.length_append, rowC_len Edg.len, htl, Edg.len]; omega)
      generalize (rowC Edg.cells (l.take i) ++ tail).drop ((i + 1) * 3) = X at *
      have HTI3 := Lib.hid (Row.keep HTI2.out (w' := w3) fun ad hA _ hlt => by
        injection hA with hA
        subst hA
        exact HB3.out.block g hlt HGN.out.1)
      have HB3' : Hid (Below w.heap.size w2 w3) := Lib.hid (HB3.out.below (by rw [HGW.out]; exact Nat.le_refl _) HB2.out.size)
      have HBW : Hid (Below w.heap.size w w3) := Lib.hid (HB2.out.trans HB3'.out)
      clear HB3 HB3' HTI2 HTI HG2 HH2
      refine wp_region_grow (by kernel_rfl) (Below w.heap.size) (Below.refl _) (fun _ _ _ => Below.trans) [] [([0, 1, 2, 3, 4, 5, 6, 7], 8)] (by kernel_rfl) (by kernel_rfl) (by kernel_rfl) ?_
      simp only [List.map_cons, List.map_nil, pick, List.getD_cons_zero, List.getD_cons_succ]
      have HG4 : Hid (w3.drew.heap[g2]? = _) := HG3
      have HTI4 := Lib.hid (HTI3.out.later (Later.drew w3))
      have HBW4 := Lib.hid HBW.out.drew
      clear HG3 HTI3 HBW
      generalize w3.drew = z0 at *
      have hsa := fun w' => run_slice_off (P := Tryz.prog) (t := 33) Tryz.underlying33 edg_size (g := g2) (n := n + 1) (c := cap2) (i := i + 1) (x := (i : Int) + 1) (by omega) (by omega) (by omega) .i64 w'
      have hsb := fun w' => run_slice_off (P := Tryz.prog) (t := 33) Tryz.underlying33 edg_size (g := g) (n := n) (c := c) (i := i) rfl hi (by omega) .i64 w'
      refine wpGrow_cons ?_
      repeat (go_big_quiet_step (fail))
      refine wpQuiet_nil ?_
      clear hsa hsb
      have hfit : (i + 1 + (n - i)) * 3 ≤ (rowC Edg.cells (l.take i) ++ e.cells ++ X).length := by rw [HL3.out]; omega
      have HTK2 : Hid ((rowC Edg.cells (l.take i) ++ e.cells ++ X).take ((i + 1) * 3) = rowC Edg.cells (l.take i) ++ e.cells) := Lib.hid (by rw [List.take_append_of_le_length (by rw [HL4.out]; exact Nat.le_refl _), List.take_of_length_le (by rw [HL4.out]; exact Nat.le_refl _)])
      obtain ⟨w5, hcp, hg5, hb5⟩ := run_copy_rowE (P := Tryz.prog) z0 33 33 53 Tryz.underlying33 (size := 3) edg_size g2 (i + 1) (n - i) (cap2 - (i + 1)) (rowC Edg.cells (l.take i) ++ e.cells ++ X) HG4.out (some ⟨g, i * 3, none⟩) (n - i) (c - i) (c - i) (rowC Edg.cells (l.drop i)) (n - i) (by omega) HTI4.out (rowC_ones Edg.ones _) hfit
      rw [HTK2.out] at hg5
      have HG5 := Lib.hid hg5; have HB5 : Hid (Below w.heap.size z0 w5) := Lib.hid (hb5.below (by rw [HGW.out]; exact Nat.le_refl _) HBW4.out.size)
      clear hg5 hb5
      go_wp2_with fail
      clear hcp
      refine pieceEnd_normal ⟨HB5.out, ?_⟩
      refine wpGrow_nil ?_
      repeat (go_big_quiet_step (fail))
      refine wpQuiet_nil ?_
      go_wp2_with fail
      go_ret
      have HDD : rowC Edg.cells (l.take i) ++ e.cells ++ rowC Edg.cells (l.drop i) = rowC Edg.cells (l.take i ++ e :: l.drop i) := by rw [rowC_app, rowC_one, List.append_assoc]
      have hg5 := HG5.out
      rw [HDD] at hg5
      have hdl : (l.take i ++ e :: l.drop i).length = n + 1 := by rw [List.length_append, List.length_cons, List.length_drop, htl, hln]; omega
      have he : EBlk w5 B g2 (n + 1) cap2 (l.take i ++ e :: l.drop i) ((rowC Edg.cells (l.take i) ++ e.cells ++ X).drop ((i + 1 + (n - i)) * 3)) := ⟨by rw [← HGW.out]; exact hB, hg5, hdl, hc1, HC2.out, by
        rw [List.length_append, rowC_len Edg.len, hdl, List.length_drop, HL3.out]; omega⟩
      rw [hdl]
      exact ⟨_, rfl, he.own, (HBW4.out.trans HB5.out).mono hB⟩
    · have b1 : decide ((n : Int) + (1 : Int) > (c : Int)) = false := decide_eq_false (by omega)
      have b1' : decide ((c : Int) < (n : Int) + (1 : Int)) = false := b1
      have hs1 := fun w' => run_slice_low (P := Tryz.prog) (t := 33) Tryz.underlying33 edg_size (g := g) (n := n) (c := c) (i := n + 1) (x := (n : Int) + 1) (by omega) (by omega) .i64 w'
      go_enter Tryz.func40, Tryz.ntmps40
      go_upto_region 14 with fail
      clear b1 b1' hs1 hs0
      have hs1 := fun w' => run_slice_off (P := Tryz.prog) (t := 33) Tryz.underlying33 edg_size (g := g) (n := n + 1) (c := c) (i := i + 1) (x := (i : Int) + 1) (by omega) (by omega) (by omega) .i64 w'
      have hov : ∀ lb cb, (callFunc 61 #[.slice (some ⟨h, 0, none⟩) 1 1, .slice (some ⟨g, (i + 1) * 3, none⟩) lb cb]).run Tryz.prog w = .ok (.value (.bool false)) w := fun lb cb => by
        have hsa : w.shape? h = some (53, 3) := by unfold World.shape?; rw [HH.out]; simp [Edg.arr]
        have hsb : w.shape? g = some (53, (rowC Edg.cells l ++ T).length) := by unfold World.shape?; rw [HEK.out.at_]; simp
        have hfa : w.frozen? ⟨h, 0, none⟩ = false := by unfold World.frozen?; rw [HH.out]; simp
        have hfe : w.frozen? ⟨h, 3, none⟩ = false := by unfold World.frozen?; rw [HH.out]; simp
        rw [run_callFunc_extern Tryz.func61 (by kernel_rfl) (by kernel_rfl) (by kernel_rfl) (e := Extern.SlicesOverlaps.overlaps #[33, 33] #[4]) (by kernel_rfl),
          Lib.run_overlaps_apart w 33 4 53 Tryz.underlying33 3 Tryz.sizeOf53 ⟨h, 0, none⟩ ⟨g, (i + 1) * 3, none⟩ 1 1 lb cb (Ne.symm hgh) 53 53 3 _ hsa hsb (by rw [HEK.out.size]; omega) hfa hfe]
        rfl
      go_upto_region 15 with (simp only [hov])
      clear hov hs1
      have htl : (l.take i).length = i := by rw [List.length_take]; omega
      have HSZ : Hid ((rowC Edg.cells l ++ T).length = c * 3) := Lib.hid HEK.out.size
      refine wp_region_grow (by kernel_rfl) (Below B) (Below.refl _) (fun _ _ _ => Below.trans) [] [([0, 1, 2, 3, 4, 5, 6, 7], 8)] (by kernel_rfl) (by kernel_rfl) (by kernel_rfl) ?_
      simp only [List.map_cons, List.map_nil, pick, List.getD_cons_zero, List.getD_cons_succ]
      have HG4 : Hid (w.drew.heap[g]? = some (.cells (rowC Edg.cells l ++ T).toArray 53 (0, 0))) := Lib.hid HEK.out.at_
      have HTI4 := Lib.hid (HTI.out.later (Later.drew w))
      have HH4 : Hid (w.drew.heap[h]? = some (.cells e.arr 53 (0, 0))) := HH
      have HBW4 : Hid (Below B w w.drew) := Lib.hid (Below.refl _ _).drew
      have HBS : Hid (B ≤ w.drew.heap.size) := Lib.hid hB
      generalize w.drew = z0 at *
      have hsa := fun w' => run_slice_off (P := Tryz.prog) (t := 33) Tryz.underlying33 edg_size (g := g) (n := n + 1) (c := c) (i := i + 1) (x := (i : Int) + 1) (by omega) (by omega) (by omega) .i64 w'
      have hsb := fun w' => run_slice_off (P := Tryz.prog) (t := 33) Tryz.underlying33 edg_size (g := g) (n := n + 1) (c := c) (i := i) rfl (by omega) (by omega) .i64 w'
      refine wpGrow_cons ?_
      repeat (go_big_quiet_step (fail))
      refine wpQuiet_nil ?_
      have hfit : (i + 1 + (n - i)) * 3 ≤ (rowC Edg.cells l ++ T).length := by rw [HSZ.out]; omega
      obtain ⟨w3, hcp, hg3, hb3⟩ := run_copy_rowE (P := Tryz.prog) z0 33 33 53 Tryz.underlying33 (size := 3) edg_size g (i + 1) (n - i) (c - (i + 1)) (rowC Edg.cells l ++ T) HG4.out (some ⟨g, i * 3, none⟩) (n + 1 - i) (c - i) (c - i) (rowC Edg.cells (l.drop i)) (n - i) (by omega) HTI4.out (rowC_ones Edg.ones _) hfit
      have HG3 := Lib.hid hg3; have HBT := Lib.hid hb3
      have HB3 : Hid (Below B z0 w3) := Lib.hid (hb3.below HLO.out HBS.out)
      clear hg3 hb3 hsa hsb
      go_wp2_with fail
      clear hcp
      refine pieceEnd_normal ⟨HB3.out, ?_⟩
      have HH5 : Hid (w3.heap[h]? = some (.cells e.arr 53 (0, 0))) := Lib.hid ((HBT.out.block h (Array.getElem?_eq_some_iff.1 HH4.out).1 (Ne.symm hgh)).trans HH4.out)
      have HL3 : Hid (((rowC Edg.cells l ++ T).take ((i + 1) * 3) ++ rowC Edg.cells (l.drop i) ++ (rowC Edg.cells l ++ T).drop ((i + 1 + (n - i)) * 3)).length = c * 3) := Lib.hid (by
        rw [List.length_append, List.length_append, List.length_drop, List.length_take, HSZ.out, rowC_len Edg.len, List.length_drop, hln]; omega)
      have HTK : Hid (((rowC Edg.cells l ++ T).take ((i + 1) * 3) ++ rowC Edg.cells (l.drop i) ++ (rowC Edg.cells l ++ T).drop ((i + 1 + (n - i)) * 3)).take (i * 3) = rowC Edg.cells (l.take i)) := Lib.hid (by
        rw [List.append_assoc, List.take_append_of_le_length (by rw [List.length_take, HSZ.out]; omega), List.take_take, Nat.min_eq_left (by omega), ecut (by omega)])
      have HDR : Hid (((rowC Edg.cells l ++ T).take ((i + 1) * 3) ++ rowC Edg.cells (l.drop i) ++ (rowC Edg.cells l ++ T).drop ((i + 1 + (n - i)) * 3)).drop ((i + 1) * 3) = rowC Edg.cells (l.drop i) ++ (rowC Edg.cells l ++ T).drop ((i + 1 + (n - i)) * 3)) := Lib.hid (by
        rw [List.append_assoc, List.drop_append_of_le_length (by rw [List.length_take, HSZ.out]; omega), List.drop_eq_nil_of_le (by rw [List.length_take]; omega), List.nil_append])
      generalize (rowC Edg.cells l ++ T).drop ((i + 1 + (n - i)) * 3) = X at *
      generalize (rowC Edg.cells l ++ T).take ((i + 1) * 3) ++ rowC Edg.cells (l.drop i) ++ X = Y at *
      refine wpGrow_nil ?_
      repeat (go_big_quiet_step (fail))
      refine wpQuiet_nil ?_
      clear hfit
      have hs1 := fun w' => run_slice_off (P := Tryz.prog) (t := 33) Tryz.underlying33 edg_size (g := g) (n := n + 1) (c := c) (i := i) rfl (by omega) (by omega) .i64 w'
      have hfit : (i + 1) * 3 ≤ Y.length := by rw [HL3.out]; omega
      obtain ⟨w5, hcp, hg5, hb5⟩ := run_copy_rowE (P := Tryz.prog) w3 33 33 53 Tryz.underlying33 (size := 3) edg_size g i (n + 1 - i) (c - i) Y HG3.out (some ⟨h, 0, none⟩) 1 1 1 e.cells 1 (by omega) (one_row3 HH5.out) e.ones hfit
      rw [HTK.out, HDR.out] at hg5
      have HG5 := Lib.hid hg5; have HB5 : Hid (Below B w3 w5) := Lib.hid (hb5.below HLO.out (Nat.le_trans HBS.out HB3.out.size))
      clear hg5 hb5
      go_wp2_with fail
      go_ret
      have HDD : rowC Edg.cells (l.take i) ++ e.cells ++ (rowC Edg.cells (l.drop i) ++ X) = rowC Edg.cells (l.take i ++ e :: l.drop i) ++ X := by rw [rowC_app, rowC_one, List.append_assoc, List.append_assoc, List.append_assoc]
      have hg5 := HG5.out
      rw [HDD] at hg5
      have hdl : (l.take i ++ e :: l.drop i).length = n + 1 := by rw [List.length_append, List.length_cons, List.length_drop, htl, hln]; omega
      have hsz : (rowC Edg.cells (l.take i ++ e :: l.drop i) ++ X).length = c * 3 := by
        have h1 := congrArg List.length HDR.out
        rw [List.length_drop, HL3.out, List.length_append, rowC_len Edg.len, List.length_drop, hln] at h1
        rw [List.length_append, rowC_len Edg.len, hdl]
        omega
      have he : EBlk w5 B g (n + 1) c (l.take i ++ e :: l.drop i) X := ⟨HLO.out, hg5, hdl, by omega, HEK.out.mx, hsz⟩
      rw [hdl]
      exact ⟨_, rfl, he.own, (HBW4.out.trans HB3.out).trans HB5.out⟩
end Go.Proofs.YtnmpbjgccbnomaaGreat
/- The walks of cmp.Or, cmp.Compare, strings.Compare. -/
namespace Go.Proofs.YtnmpbjgccbnomaaGreat
open Go.RowKit
/-- The first number that is not zero. -/
def firstNZ : List Int → Int
  | [] => 0
  | x :: l => if x = 0 then firstNZ l else x
theorem firstNZ_drop (l : List Int) (j : Nat) (h : ∀ i, i < j → l.getD i 0 = 0) (hj : j ≤ l.length) : firstNZ l = firstNZ (l.drop j) := by
  induction j with
  | zero => rfl
  | succ j ih =>
    rw [ih (fun i hi => h i (by omega)) (by omega), List.drop_eq_getElem_cons (show j < l.length by omega)]
    have h0 := h j (by omega)
    rw [List.getD_eq_getElem?_getD, List.getElem?_eq_getElem (by omega)] at h0
    exact if_pos h0
set_option maxRecDepth 100000 in
set_option maxHeartbeats 1000000 in
theorem or_any (A : Option Addr) (n c : Nat) (l : List Int) (w : World) (hl : IRow w A n c l) (hn : n ≤ 1000000) :
    Calls Tryz.prog 59 #[.slice A n c] w fun e w' => e = .returned (.int .i64 (firstNZ l)) ∧ w' = w := by
  have HL := Lib.hid hl; have HLN := Lib.hid hl.len
  clear hl
  go_enter Tryz.func59, Tryz.ntmps59
  go_wp2
  go_loopw [8] (fun i wr => ∃ j : Nat, j ≤ n ∧ i = .int .i64 j ∧ wr = w ∧ Hid (∀ i, i < j → l.getD i 0 = 0)) (fun i _ => n - (intOf i).toNat)
  case atStart => exact ⟨0, Nat.zero_le _, rfl, rfl, Lib.hid fun _ h => absurd h (Nat.not_lt_zero _)⟩
  case round =>
    obtain ⟨j, hj, rfl, rfl, HQ⟩ := hrel
    by_cases hlt : j < n
    · obtain ⟨ab, off, hA, hc0⟩ := HL.out.cell j hlt
      subst hA
      by_cases hz : l.getD j 0 = 0
      · rw [hz] at hc0
        have HZ := Lib.hid hz; clear hz
        go_wp2
        refine ⟨⟨j + 1, hlt, by go_num, by simp, Lib.hid fun i hi => ?_⟩, by simp [intOf]; omega⟩
        by_cases h : i = j
        · rw [h]; exact HZ.out
        · exact HQ.out i (by omega)
      · have HZ : Hid (firstNZ l = l.getD j 0) := Lib.hid (by
          rw [firstNZ_drop l j HQ.out (by have := HLN.out; omega), List.drop_eq_getElem_cons (show j < l.length by have := HLN.out; omega)]
          have e : l.getD j 0 = l[j]'(by have := HLN.out; omega) := by rw [List.getD_eq_getElem?_getD, List.getElem?_eq_getElem (by have := HLN.out; omega)]; rfl
          rw [e] at hz ⊢
          show (if l[j]'_ = 0 then _ else _) = _
          rw [if_neg hz])
        generalize l.getD j 0 = x at hc0 HZ hz
        have hx : (x != 0) = true := by simpa using hz
        clear hz
        go_wp2
        go_ret
        exact ⟨by rw [HZ.out]; rfl, rfl⟩
    · have HE : Hid (j = n) := by unfold Hid; omega
      go_wp2
      go_ret
      refine ⟨?_, rfl⟩
      rw [firstNZ_drop l j HQ.out (by have := HLN.out; omega), List.drop_eq_nil_of_le (by have := HLN.out; have := HE.out; omega)]
      rfl
set_option maxHeartbeats 1000000 in
theorem cmpInt_any (x y : Int) (w : World) :
    Calls Tryz.prog 60 #[.int .i64 x, .int .i64 y] w fun e w' => e = .returned (.int .i64 (Lib.compareInt x y)) ∧ w' = w := by
  go_enter Tryz.func60, Tryz.ntmps60
  go_wp2
  all_goals (go_ret; refine ⟨?_, rfl⟩; unfold Lib.compareInt; (repeat' split) <;> first | rfl | (exfalso; omega))
end Go.Proofs.YtnmpbjgccbnomaaGreat
/- The walk of store's compare. -/
namespace Go.Proofs.YtnmpbjgccbnomaaGreat
open Go.RowKit
/-- Blocks and draws may have come; nothing has turned. -/
def Laid (a b : World) : Prop := Below a.heap.size a b ∧ a.drawn ≤ b.drawn
theorem Laid.refl (a : World) : Laid a a := ⟨Below.refl _ _, Nat.le_refl _⟩
theorem Laid.trans {a b c : World} (h : Laid a b) (k : Laid b c) : Laid a c := ⟨h.1.trans (k.1.mono h.1.size), Nat.le_trans h.2 k.2⟩
theorem Laid.alloc (a : World) (o : Obj) : Laid a (a.alloc o) := ⟨one_new a o, Nat.le_refl _⟩
theorem Laid.drew (a : World) : Laid a a.drew := ⟨(Below.refl _ _).drew, Nat.le_succ _⟩
end Go.Proofs.YtnmpbjgccbnomaaGreat
/- The walk of graph's compare, and its order. -/
namespace Go.Proofs.YtnmpbjgccbnomaaGreat
open Go.RowKit
/-- The order of edges as the program reckons it. -/
def cmpEd (a b : Edg) : Int := firstNZ [Lib.compareInt a.fr b.fr, Lib.compareInt a.tu b.tu]
theorem cmpI_three (x y : Int) : (x < y ∧ Lib.compareInt x y = -1) ∨ (x = y ∧ Lib.compareInt x y = 0) ∨ (y < x ∧ Lib.compareInt x y = 1) := by
  unfold Lib.compareInt
  (repeat' split) <;> omega
theorem cmpEd_iff (a b : Edg) : cmpEd a b < 0 ↔ befE a b = true := by
  rw [befE_iff]
  unfold cmpEd firstNZ firstNZ firstNZ ltE
  rcases cmpI_three a.fr b.fr with ⟨h, e⟩ | ⟨h, e⟩ | ⟨h, e⟩
  · rw [e, if_neg (by decide)]; omega
  · rw [e, if_pos rfl]
    rcases cmpI_three a.tu b.tu with ⟨k, f⟩ | ⟨k, f⟩ | ⟨k, f⟩
    · rw [f, if_neg (by decide)]; omega
    · rw [f, if_pos rfl]; omega
    · rw [f, if_neg (by decide)]; omega
  · rw [e, if_neg (by decide)]; omega
theorem cmpEd_zero (a b : Edg) : cmpEd a b = 0 ↔ a.fr = b.fr ∧ a.tu = b.tu := by
  unfold cmpEd firstNZ firstNZ firstNZ
  rcases cmpI_three a.fr b.fr with ⟨h, e⟩ | ⟨h, e⟩ | ⟨h, e⟩
  · rw [e, if_neg (by decide)]; omega
  · rw [e, if_pos rfl]
    rcases cmpI_three a.tu b.tu with ⟨k, f⟩ | ⟨k, f⟩ | ⟨k, f⟩
    · rw [f, if_neg (by decide)]; omega
    · rw [f, if_pos rfl]; omega
    · rw [f, if_neg (by decide)]; omega
  · rw [e, if_neg (by decide)]; omega
theorem edg_cells {w : World} {g : Nat} {p : Edg} {t : TypeId} {fr : Nat × Nat} (h : w.heap[g]? = some (.cells p.arr t fr)) :
    w.cell? ⟨g, 0, none⟩ = some (.int .i64 p.fr) ∧ w.cell? ⟨g, 1, none⟩ = some (.int .i64 p.tu) ∧ w.cell? ⟨g, 2, none⟩ = some (.int .i64 p.lv) :=
  ⟨(cell_of_row _ _ 0 _ _ _ h).trans rfl, (cell_of_row _ _ 1 _ _ _ h).trans rfl, (cell_of_row _ _ 2 _ _ _ h).trans rfl⟩
theorem edg_futs {F : World → World → Prop} (hr : ∀ w, F w w) {W : World} {g : Nat} {p : Edg} {t : TypeId} {fr : Nat × Nat} (hF : ∀ w', F W w' → w'.heap[g]? = W.heap[g]?) (h : W.heap[g]? = some (.cells p.arr t fr)) :
    (∀ x, (fut F W x).cell? ⟨g, 0, none⟩ = some (.int .i64 p.fr)) ∧ (∀ x, (fut F W x).cell? ⟨g, 1, none⟩ = some (.int .i64 p.tu)) ∧ (∀ x, (fut F W x).cell? ⟨g, 2, none⟩ = some (.int .i64 p.lv)) := by
  have h2 := fun x => edg_cells ((hF _ (fut_ok hr W x)).trans h)
  exact ⟨fun x => (h2 x).1, fun x => (h2 x).2.1, fun x => (h2 x).2.2⟩
set_option maxRecDepth 100000 in
set_option maxHeartbeats 1000000 in
theorem compareEd_any (p q : Edg) (w : World) : Calls Tryz.prog 38 #[.agg p.arr, .agg q.arr] w fun e w' => e = .returned (.int .i64 (cmpEd p q)) ∧ Laid w w' := by
  have HB : Hid (Laid w (((w.alloc (.cells p.arr 53)).alloc (.cells q.arr 53)).drew)) := Lib.hid (((Laid.alloc w _).trans (Laid.alloc _ _)).trans (Laid.drew _))
  have HX : Hid ((((w.alloc (.cells p.arr 53)).alloc (.cells q.arr 53)).drew).heap[w.heap.size]? = some (.cells p.arr 53 (0, 0))) := Lib.hid ((Below.heap_alloc _ _ _ (by simp)).trans (heap_alloc_new _ _))
  have HY : Hid ((((w.alloc (.cells p.arr 53)).alloc (.cells q.arr 53)).drew).heap[w.heap.size + 1]? = some (.cells q.arr 53 (0, 0))) := Lib.hid (heap_alloc2_new _ _ _)
  unfold cmpEd
  go_enter Tryz.func38, Tryz.ntmps38
  go_wp2_with fail
  refine wp_region_grow (by kernel_rfl) Laid Laid.refl (fun _ _ _ => Laid.trans) [12] [([0, 1, 2, 3, 5, 6, 7, 8], 4), ([], 9), ([], 10), ([], 11)] (by kernel_rfl) (by kernel_rfl) (by kernel_rfl) ?_
  simp only [List.map_cons, List.map_nil, pick, List.getD_cons_zero, List.getD_cons_succ]
  generalize (((w.alloc (.cells p.arr 53)).alloc (.cells q.arr 53)).drew) = w1 at HB HX HY ⊢
  have hlx : w.heap.size < w1.heap.size := (Array.getElem?_eq_some_iff.1 HX.out).1
  have hly : w.heap.size + 1 < w1.heap.size := (Array.getElem?_eq_some_iff.1 HY.out).1
  obtain ⟨hf0, hf1, hf2⟩ := edg_futs (F := Laid) Laid.refl (p := p) (W := w1) (fun w' h => h.1.block _ hlx) HX.out
  obtain ⟨hg0, hg1, hg2⟩ := edg_futs (F := Laid) Laid.refl (p := q) (W := w1) (fun w' h => h.1.block _ hly) HY.out
  obtain ⟨x0, x1, x2⟩ := p
  obtain ⟨y0, y1, y2⟩ := q
  simp only at hf0 hf1 hf2 hg0 hg1 hg2 ⊢
  refine wpGrow_cons ?_
  repeat (go_big_quiet_step (fail))
  refine wpQuiet_nil ?_
  clear hf0 hf1 hf2 hg0 hg1 hg2 HX HY hlx hly
  go_wp2_with fail
  refine (cmpInt_any _ _ _).mono ?_
  rintro e w2 ⟨rfl, rfl⟩
  go_wp2_with fail
  refine pieceEnd_normal ⟨Laid.refl _, ?_⟩
  refine wpGrow_cons ?_
  refine wpQuiet_nil ?_
  go_wp2_with fail
  refine (cmpInt_any _ _ _).mono ?_
  rintro e w4 ⟨rfl, rfl⟩
  go_wp2_with fail
  refine pieceEnd_normal ⟨Laid.refl _, ?_⟩
  generalize hr1 : Lib.compareInt x0 y0 = r1
  generalize hr2 : Lib.compareInt x1 y1 = r2
  have HR := Lib.hid (And.intro hr1 hr2); clear hr1 hr2
  refine wpGrow_cons ?_
  refine wpQuiet_nil ?_
  go_wp2_with fail
  refine pieceEnd_normal ⟨Laid.alloc _ _, ?_⟩
  have HI := Lib.hid (show IRow (w4.alloc (.cells #[.int .i64 r1, .int .i64 r2] 3)) (some ⟨w4.heap.size, 0, none⟩) 2 2 [r1, r2] from Row.of_block (heap_alloc_new _ _) rfl)
  have HB2 := Lib.hid (HB.out.trans (Laid.alloc w4 (.cells #[.int .i64 r1, .int .i64 r2] 3)))
  refine wpGrow_cons ?_
  refine wpQuiet_nil ?_
  go_wp2_with fail
  refine (or_any _ _ _ _ _ HI.out (by omega)).mono ?_
  rintro e w5 ⟨rfl, rfl⟩
  go_wp2_with fail
  refine pieceEnd_normal ⟨Laid.refl _, ?_⟩
  refine wpGrow_nil ?_
  repeat (go_big_quiet_step (fail))
  refine wpQuiet_nil ?_
  go_wp2_with fail
  go_ret
  exact ⟨by rw [HR.out.1, HR.out.2]; rfl, HB2.out⟩
end Go.Proofs.YtnmpbjgccbnomaaGreat
/- The walk of the reference's Between. -/
namespace Go.Proofs.YtnmpbjgccbnomaaGreat
open Go.RowKit
end Go.Proofs.YtnmpbjgccbnomaaGreat
/- The law of layer 10 on one list, over any program that gives what layer 10 asks. -/
namespace Go.Proofs.YtnmpbjgccbnomaaGreat
open Go.RowKit
/-- A list as layer 10 is specified for: what counts of some authors, by author and number. -/
structure Ord10 (S : List Stm) : Prop where
  ok : ∀ s ∈ S, checkV s = 0
  link : Linked none S
  ord : S.Pairwise fun a b => a.author < b.author ∨ (a.author = b.author ∧ a.number < b.number)
end Go.Proofs.YtnmpbjgccbnomaaGreat
/- What counts of a store: it is in the order that layer 10 is specified for; its lists are the call's own. -/
namespace Go.Proofs.YtnmpbjgccbnomaaGreat
open Go.RowKit
set_option maxRecDepth 100000 in
set_option maxHeartbeats 4000000 in
theorem countedAll_hi (A : Option Addr) (n c : Nat) (l : List Pl) (w : World) (hl : LRow w A n c l) (hn : n ≤ 1000) (hs : ∀ p ∈ l, Small p.s) :
    Calls Tryz.prog 8 #[.agg #[.slice A n c]] w fun e w' => ∃ v l', e = .returned v ∧ l'.map (·.s) = countedAll (l.map (·.s)) ∧ LOwn w' w.heap.size v l' ∧ HiL w.heap.size l' ∧ Below w.heap.size w w' := by
  have HL := Lib.hid hl; have HLN := Lib.hid hl.len; have HS := Lib.hid hs
  clear hl hs
  go_enter Tryz.func8, Tryz.ntmps8
  go_wp2_with fail
  have HNW := Lib.hid (one_new w (.cells #[.slice A n c] 30))
  have HG : Hid ((w.alloc (.cells #[.slice A n c] 30)).heap[w.heap.size]? = some (.cells #[.slice A n c] 30 (0, 0))) := Lib.hid (heap_alloc_new _ _)
  generalize w.alloc (.cells #[.slice A n c] 30) = y0 at *
  have HGL : Hid (w.heap.size < y0.heap.size) := Lib.hid (Array.getElem?_eq_some_iff.1 HG.out).1
  replace HL := Lib.hid (HL.out.later HNW.out)
  go_loopw [3, 4] (fun v i wr => ∃ (j : Nat) (l' : List Pl), j ≤ 64 ∧ i = .int .i64 j ∧ Hid (LOwn wr y0.heap.size v l' ∧ l'.map (·.s) = countedUp (l.map (·.s)) j ∧ Below y0.heap.size y0 wr ∧ HiL y0.heap.size l')) (fun _ i _ => 64 - (intOf i).toNat)
  case atStart => exact ⟨0, [], Nat.zero_le _, rfl, Lib.hid ⟨LOwn.nil _ _, rfl, Below.refl _ _, HiL.nil _⟩⟩
  case round =>
    obtain ⟨j, l', hj, rfl, HQ⟩ := hrel
    obtain ⟨A3, c3, hv3, -⟩ := HQ.out.1.row
    subst hv3
    by_cases hlt : j < 64
    · have hlt2 : (j : Int) < 64 := by omega
      have HX0 : Hid (wr.heap[w.heap.size]? = some (.cells #[.slice A n c] 30 (0, 0))) := Lib.hid ((HQ.out.2.2.1.block _ HGL.out).trans HG.out)
      have HLJ := Lib.hid (HL.out.later HQ.out.2.2.1)
      have HLE : Hid (l'.length ≤ 64000) := Lib.hid (by
        have h1 := congrArg List.length HQ.out.2.1
        have h2 := countedUp_len (l.map (·.s)) j
        rw [List.length_map] at h1 h2
        rw [HLN.out] at h2
        have h3 : j * n ≤ 64 * 1000 := Nat.mul_le_mul hj hn
        omega)
      have HST := Lib.hid (countedUp_succ (l.map (·.s)) j)
      go_wp2_with (refine wpList_load_row rfl 30 (.tmp 1) rfl w.heap.size rfl 30 #[.slice A n c] (0, 0) _ HX0.out Tryz.underlying30 rfl (by kernel_rfl) ?_)
      refine (refOf_any A n c l (j : Int) wr HLJ.out (by omega) (fun p hp => (HS.out p hp).few)).mono ?_
      rintro e w1 ⟨v1, l1, rfl, hm1, ho1, hb1⟩
      obtain ⟨A1, c1, hv1, hr1⟩ := ho1.row
      subst hv1
      have HS1 : Hid (∀ p ∈ l1, Small p.s) := Lib.hid fun p hp => by
        have h1 : p.s ∈ ofS (j : Int) (l.map (·.s)) := by rw [← hm1]; exact List.mem_map_of_mem hp
        obtain ⟨r, hr, he⟩ := List.mem_map.1 (ofS_mem h1)
        rw [← he]; exact HS.out r hr
      have hl1 : l1.length ≤ n := by
        have h1 := congrArg List.length hm1
        have h2 := ofS_len (j : Int) (l.map (·.s))
        rw [List.length_map] at h1 h2
        have h3 := HLN.out
        omega
      have HM1 := Lib.hid hm1; have HR1 := Lib.hid hr1
      have HO1 := Lib.hid (HQ.out.1.later hb1); have HB1 := Lib.hid (HQ.out.2.2.1.trans (hb1.mono HQ.out.2.2.1.size)); have HM := Lib.hid HQ.out.2.1; have HHQ := Lib.hid HQ.out.2.2.2
      clear hm1 ho1 hb1 hr1 HQ HX0 HLJ
      go_wp2_with fail
      refine (refCounted_hi (j : Int) A1 l1.length c1 l1 w1 HR1.out (by omega) HS1.out).mono ?_
      rintro e w2 ⟨v2, l2, rfl, hm2, ho2, hhi2, hb2⟩
      obtain ⟨A2, c2, hv2, hr2⟩ := ho2.row
      subst hv2
      have hl2 : l2.length ≤ n := by
        have h1 := congrArg List.length hm2
        have h2 := countedR_len (j : Int) (l1.map (·.s))
        rw [List.length_map] at h1 h2
        omega
      have HM2 : Hid (l2.map (·.s) = countedR (j : Int) (ofS (j : Int) (l.map (·.s)))) := Lib.hid (by rw [hm2, HM1.out])
      have HR2 := Lib.hid hr2
      have HCL : Hid (∀ p ∈ l2, PlOk w2 p ∧ Clear (.slice A3 l'.length c3) p) := Lib.hid fun p hp => ⟨(ho2.ok p hp).1, clear_new (w := w1) (q := p) (hhi2 p hp).1 (hhi2 p hp).2 (own_lt HO1.out.own)⟩
      have HO2 := Lib.hid (HO1.out.later hb2); have HB2 := Lib.hid (HB1.out.trans (hb2.mono HB1.out.size))
      have HH2 : Hid (HiL y0.heap.size l2) := Lib.hid (HiL.mono (fun p hp => hhi2 p hp) HB1.out.size)
      clear hm2 ho2 hhi2 hb2 hr2 HR1 HS1 HM1 HO1 HB1
      have hle := HLE.out
      go_wp2_with (at_builtin; go_must (refine wpList_app2 w2 rfl (.tmp 9) (.tmp 14) 27 27 48 rfl y0.heap.size Tryz.underlying27 stm_info rfl _ l'.length (plsC l') HO2.out.own rfl _ l2.length (plsC l2) (Row.src HR2.out.row Tryz.underlying27 (plsC_one _)) rfl (by unfold maxLen; omega) (by omega) HB2.out.size ?_); intro v4 z4 ho hb hkp hv; have HO4 := Lib.hid (HO2.out.app (m := l2) HCL.out ho hkp hv); have HB4 := Lib.hid (HB2.out.trans hb); clear ho hb hkp hv)
      refine ⟨⟨j + 1, l' ++ l2, hlt, by go_num, Lib.hid ⟨HO4.out, ?_, HB4.out, HiL.app HHQ.out HH2.out⟩⟩, by simp [intOf]; omega⟩
      rw [List.map_append, HM.out, HM2.out, HST.out]
    · have hlt2 : ¬ (j : Int) < 64 := by omega
      have HE : Hid (j = 64) := by unfold Hid; omega
      go_wp2_with fail
      go_ret
      exact ⟨_, rfl, l', by rw [HQ.out.2.1, HE.out]; rfl, HQ.out.1.mono (Nat.le_of_lt HGL.out), HQ.out.2.2.2.mono (Nat.le_of_lt HGL.out), HNW.out.trans (HQ.out.2.2.1.mono HNW.out.size)⟩
theorem LRow.butD {D B : Nat} {w w' : World} {A : Option Addr} {n c : Nat} {l : List Pl} (h : LRow w A n c l) (hA : ∀ ad, A = some ad → B ≤ ad.block) (hi : HiL B l) (hb : But D w w') (hD : D < B) : LRow w' A n c l :=
  ⟨Row.but h.row hb fun ad e _ => by have := hA ad e; omega, fun p hp => (h.ok p hp).butD hb (hi p hp) hD⟩
theorem LOwn.low {w : World} {B : Nat} {A : Option Addr} {n c : Nat} {l : List Pl} (h : LOwn w B (.slice A n c) l) : ∀ ad, A = some ad → B ≤ ad.block := fun ad e => own_ge h.own ad.block (by subst e; rfl)
theorem countedR_author {au : Int} {l : List Stm} {s : Stm} (h : s ∈ countedR au l) : s.author = au := (ownL_mem (List.mem_of_mem_take h)).2.1
theorem countedR_number (au : Int) (l : List Stm) (i : Nat) (hi : i < (countedR au l).length) : ((countedR au l).getD i noStm).number = (i : Int) := by
  unfold countedR at hi ⊢
  have hi2 : i < countsFrom (ownL au l) (ownL au l).length 0 := by rw [List.length_take] at hi; omega
  rw [getD_take7 _ hi2]
  have h1 := countsFrom_all (ownL au l) (ownL au l).length 0 i (Nat.zero_le _) hi2
  unfold stepR at h1
  rw [Bool.and_eq_true, decide_eq_true_eq] at h1
  exact h1.1
theorem countedR_ord (au : Int) (l : List Stm) : (countedR au l).Pairwise fun a b => a.author < b.author ∨ (a.author = b.author ∧ a.number < b.number) := by
  rw [List.pairwise_iff_getElem]
  intro i j hi hj hij
  have h1 := countedR_number au l i hi
  have h2 := countedR_number au l j hj
  rw [List.getD_eq_getElem?_getD, List.getElem?_eq_getElem hi, Option.getD_some] at h1
  rw [List.getD_eq_getElem?_getD, List.getElem?_eq_getElem hj, Option.getD_some] at h2
  exact .inr ⟨by rw [countedR_author (List.getElem_mem hi), countedR_author (List.getElem_mem hj)], by rw [h1, h2]; omega⟩
theorem countedUp_ord (l : List Stm) : ∀ j, (countedUp l j).Pairwise fun a b => a.author < b.author ∨ (a.author = b.author ∧ a.number < b.number)
  | 0 => List.Pairwise.nil
  | j + 1 => by
    rw [countedUp_succ]
    refine List.pairwise_append.2 ⟨countedUp_ord l j, countedR_ord _ _, fun a ha b hb => ?_⟩
    obtain ⟨k, hk, ha⟩ := List.mem_flatMap.1 ha
    have h1 := countedR_author ha
    have h2 := countedR_author hb
    have h3 := List.mem_range.1 hk
    exact .inl (by omega)
theorem ord10_counted (l : List Stm) : Ord10 (countedAll l) := ⟨fun _ h => counted_check h, countedAll_linked l, countedUp_ord l 64⟩
end Go.Proofs.YtnmpbjgccbnomaaGreat
/- Plain facts on vouches: their order, which are active, and that statements with a later time do not matter. -/
namespace Go.Proofs.YtnmpbjgccbnomaaGreat
open Go.RowKit
/-- The order of vouches, as a proposition. -/
def ltV (a b : Vou) : Prop := a.fr < b.fr ∨ (a.fr = b.fr ∧ (a.tu < b.tu ∨ (a.tu = b.tu ∧ a.nu < b.nu)))
theorem lessV_iff (a b : Vou) : lessV a b = true ↔ ltV a b := by
  unfold lessV ltV
  split
  · split
    · rw [decide_eq_true_eq]; omega
    · rw [decide_eq_true_eq]; omega
  · rw [decide_eq_true_eq]; omega
theorem ltV_trans {a b c : Vou} (h : ltV a b) (k : ltV b c) : ltV a c := by unfold ltV at *; omega
/-- The same two, the same number. -/
def keyV (a b : Vou) : Prop := a.fr = b.fr ∧ a.tu = b.tu ∧ a.nu = b.nu
theorem ltV_of_not {a b : Vou} (h : ¬ ltV a b) (k : ¬ keyV a b) : ltV b a := by unfold ltV keyV at *; omega
theorem backV_all (f : Vou → Bool) (l : List Vou) : ∀ k i, backV f l k ≤ i → i < k → f (l.getD i noVou) = true
  | 0, i, _, h => absurd h (Nat.not_lt_zero _)
  | k + 1, i, h1, h2 => by
    by_cases hf : f (l.getD k noVou) = true
    · rw [backV_go hf] at h1
      by_cases hik : i = k
      · rw [hik]; exact hf
      · exact backV_all f l k i h1 (by omega)
    · rw [backV_stop (by simpa using hf)] at h1
      omega
theorem backV_last (f : Vou → Bool) (l : List Vou) : ∀ k, 0 < backV f l k → f (l.getD (backV f l k - 1) noVou) = false
  | 0, h => absurd h (Nat.not_lt_zero _)
  | k + 1, h => by
    by_cases hf : f (l.getD k noVou) = true
    · rw [backV_go hf] at h ⊢
      exact backV_last f l k h
    · rw [backV_stop (by simpa using hf)]
      simpa using hf
theorem insV_mem {l : List Vou} {x y : Vou} : y ∈ insV l x ↔ y = x ∨ y ∈ l := by
  unfold insV
  rw [List.mem_append, List.mem_cons]
  constructor
  · rintro (h | h | h)
    · exact .inr (List.mem_of_mem_take h)
    · exact .inl h
    · exact .inr (List.mem_of_mem_drop h)
  · rintro (h | h)
    · exact .inr (.inl h)
    · rw [← List.take_append_drop (backV (lessV x) l l.length) l, List.mem_append] at h
      rcases h with h | h
      · exact .inl h
      · exact .inr (.inr h)
theorem sortV_at {l : List Vou} (h : l.Pairwise ltV) {i j : Nat} (hij : i < j) (hj : j < l.length) : ltV (l.getD i noVou) (l.getD j noVou) := by
  rw [List.pairwise_iff_getElem] at h
  have := h i j (by omega) hj hij
  rw [List.getD_eq_getElem?_getD, List.getElem?_eq_getElem (by omega), List.getD_eq_getElem?_getD, List.getElem?_eq_getElem hj]
  exact this
theorem getDV {l : List Vou} {i : Nat} (h : i < l.length) : l.getD i noVou = l[i] := by
  rw [List.getD_eq_getElem?_getD, List.getElem?_eq_getElem h]; rfl
theorem memV {l : List Vou} {y : Vou} (h : y ∈ l) : ∃ i, i < l.length ∧ l.getD i noVou = y := by
  obtain ⟨i, hi, he⟩ := List.mem_iff_getElem.1 h
  exact ⟨i, hi, by rw [getDV hi, he]⟩
theorem insV_sorted {l : List Vou} {x : Vou} (h : l.Pairwise ltV) (hk : ∀ y ∈ l, ¬ keyV x y) : (insV l x).Pairwise ltV := by
  obtain ⟨p, hp⟩ : ∃ p, backV (lessV x) l l.length = p := ⟨_, rfl⟩
  have h1 : ∀ i, p ≤ i → i < l.length → ltV x (l.getD i noVou) := fun i a b => (lessV_iff _ _).1 (backV_all (lessV x) l l.length i (by rw [hp]; exact a) b)
  have hpl : p ≤ l.length := by rw [← hp]; exact backV_le _ _ _
  have h2 : 0 < p → ltV (l.getD (p - 1) noVou) x := fun h0 => by
    have h3 := backV_last (lessV x) l l.length (by rw [hp]; exact h0)
    rw [hp] at h3
    refine ltV_of_not (fun hc => ?_) (hk _ (by rw [getDV (by omega)]; exact List.getElem_mem _))
    rw [(lessV_iff _ _).2 hc] at h3
    cases h3
  unfold insV
  rw [hp]
  refine List.pairwise_append.2 ⟨h.sublist (List.take_sublist _ _), List.pairwise_cons.2 ⟨fun b hb => ?_, h.sublist (List.drop_sublist _ _)⟩, fun a ha b hb => ?_⟩
  · obtain ⟨i, hi, he⟩ := List.mem_iff_getElem.1 hb
    rw [List.getElem_drop] at he
    rw [List.length_drop] at hi
    have := h1 (p + i) (by omega) (by omega)
    rw [getDV (by omega), he] at this
    exact this
  · obtain ⟨i, hi, he⟩ := List.mem_iff_getElem.1 ha
    rw [List.getElem_take] at he
    rw [List.length_take] at hi
    have ha2 : l.getD i noVou = a := by rw [getDV (by omega), he]
    rcases List.mem_cons.1 hb with rfl | hb
    · rw [← ha2]
      by_cases hip : i = p - 1
      · rw [hip]; exact h2 (by omega)
      · exact ltV_trans (sortV_at h (show i < p - 1 by omega) (by omega)) (h2 (by omega))
    · obtain ⟨j, hj, he2⟩ := List.mem_iff_getElem.1 hb
      rw [List.getElem_drop] at he2
      rw [List.length_drop] at hj
      rw [← ha2, ← he2, ← getDV (by omega : p + j < l.length)]
      exact sortV_at h (by omega) (by omega)
/-- No two statements of one author and number. -/
def ApartN (m : List Stm) : Prop := m.Pairwise fun a b => ¬ (a.author = b.author ∧ a.number = b.number)
theorem vfold_sorted (L : List Stm) : ∀ (m : List Stm) (out : List Vou), out.Pairwise ltV → ApartN m → (∀ y ∈ out, ∀ s ∈ m, ¬ keyV (vouOf L s) y) →
    (m.foldl (vouStep L) out).Pairwise ltV ∧ ∀ y, y ∈ m.foldl (vouStep L) out ↔ y ∈ out ∨ ∃ s ∈ m, s.kind = 1 ∧ y = vouOf L s
  | [], out, h, _, _ => ⟨h, fun y => by simp⟩
  | s :: m, out, h, ha, hk => by
    have ha2 := List.pairwise_cons.1 ha
    rw [List.foldl_cons]
    by_cases hs : s.kind = 1
    · have hst : vouStep L out s = insV out (vouOf L s) := by unfold vouStep; rw [if_pos hs]
      rw [hst]
      have ih := vfold_sorted L m (insV out (vouOf L s)) (insV_sorted h fun y hy => hk y hy s (List.mem_cons.2 (.inl rfl))) ha2.2 fun y hy t ht => by
        rcases insV_mem.1 hy with rfl | hy
        · exact fun hc => ha2.1 t ht ⟨hc.1.symm, hc.2.2.symm⟩
        · exact hk y hy t (List.mem_cons.2 (.inr ht))
      refine ⟨ih.1, fun y => ?_⟩
      rw [ih.2, insV_mem]
      constructor
      · rintro ((h | h) | ⟨t, ht, h⟩)
        · exact .inr ⟨s, List.mem_cons.2 (.inl rfl), hs, h⟩
        · exact .inl h
        · exact .inr ⟨t, List.mem_cons.2 (.inr ht), h⟩
      · rintro (h | ⟨t, ht, h⟩)
        · exact .inl (.inr h)
        · rcases List.mem_cons.1 ht with rfl | ht
          · exact .inl (.inl h.2)
          · exact .inr ⟨t, ht, h⟩
    · have hst : vouStep L out s = out := by unfold vouStep; rw [if_neg hs]
      rw [hst]
      have ih := vfold_sorted L m out h ha2.2 fun y hy t ht => hk y hy t (List.mem_cons.2 (.inr ht))
      refine ⟨ih.1, fun y => ?_⟩
      rw [ih.2]
      constructor
      · rintro (h | ⟨t, ht, h⟩)
        · exact .inl h
        · exact .inr ⟨t, List.mem_cons.2 (.inr ht), h⟩
      · rintro (h | ⟨t, ht, h⟩)
        · exact .inl h
        · rcases List.mem_cons.1 ht with rfl | ht
          · exact absurd h.1 hs
          · exact .inr ⟨t, ht, h⟩
theorem Ord10.apartN {S : List Stm} (h : Ord10 S) : ApartN S := h.ord.imp fun h => by omega
theorem vouches_sorted {S : List Stm} (h : Ord10 S) : (vouchesS S).Pairwise ltV := (vfold_sorted S S [] List.Pairwise.nil h.apartN fun _ h => (nomatch h)).1
theorem vouches_mem {S : List Stm} (h : Ord10 S) (y : Vou) : y ∈ vouchesS S ↔ ∃ s ∈ S, s.kind = 1 ∧ y = vouOf S s := by
  unfold vouchesS
  rw [(vfold_sorted S S [] List.Pairwise.nil h.apartN fun _ h => (nomatch h)).2]
  simp
end Go.Proofs.YtnmpbjgccbnomaaGreat
/- Plain facts on what is active: at most one between two, and statements with a later time do not matter. -/
namespace Go.Proofs.YtnmpbjgccbnomaaGreat
open Go.RowKit
theorem stm_at {l : List Stm} {i : Nat} (h : i < l.length) : l.getD i noStm = l[i] := by
  rw [List.getD_eq_getElem?_getD, List.getElem?_eq_getElem h]; rfl
theorem Ord10.at {S : List Stm} (h : Ord10 S) {i j : Nat} (hij : i < j) (hj : j < S.length) : (S.getD i noStm).author < (S.getD j noStm).author ∨ ((S.getD i noStm).author = (S.getD j noStm).author ∧ (S.getD i noStm).number < (S.getD j noStm).number) := by
  have h1 := h.ord
  rw [List.pairwise_iff_getElem] at h1
  rw [stm_at hj, stm_at (by omega : i < S.length)]
  exact h1 i j (by omega) hj hij
theorem linked_time : ∀ {l : List Stm} {o : Option Stm}, Linked o l → ∀ i, i < l.length → 0 < (l.getD i noStm).number → 0 < i → (l.getD (i - 1) noStm).time ≤ (l.getD i noStm).time
  | [], _, _, i, hi, _, _ => absurd hi (Nat.not_lt_zero _)
  | s :: l, o, h, i, hi, h0, hp => by
    obtain ⟨k, rfl⟩ : ∃ k, i = k + 1 := ⟨i - 1, by omega⟩
    cases k with
    | zero =>
      cases l with
      | nil => exact absurd hi (by simp)
      | cons t m =>
        obtain ⟨p, hp, _, _, h3⟩ := h.2.1 h0
        injection hp with hp
        subst hp
        exact h3
    | succ k => exact linked_time h.2 (k + 1) (Nat.lt_of_succ_lt_succ hi) h0 (Nat.succ_pos _)
/-- An author's times rise with the numbers. -/
theorem Ord10.mono {S : List Stm} (h : Ord10 S) (i : Nat) : ∀ d, i + d < S.length → (S.getD i noStm).author = (S.getD (i + d) noStm).author → (S.getD i noStm).time ≤ (S.getD (i + d) noStm).time
  | 0, _, _ => Int.le_refl _
  | d + 1, hd, ha => by
    have h0 : 0 ≤ (S.getD i noStm).number := by
      rw [stm_at (by omega : i < S.length)]
      exact (check_bounds (h.ok _ (List.getElem_mem _))).2.2.1
    have h1 := h.at (show i < i + (d + 1) by omega) hd
    have h2 : 0 < (S.getD (i + (d + 1)) noStm).number := by omega
    have h3 := linked_time h.link (i + (d + 1)) hd h2 (by omega)
    rcases h.link.at (i + (d + 1)) hd h2 with ⟨h4, _⟩ | ⟨_, h5, _⟩
    · omega
    · rw [show i + (d + 1) - 1 = i + d by omega] at h3 h5
      exact Int.le_trans (h.mono i d (by omega) (by rw [ha, h5])) h3
theorem mem_at {S : List Stm} {s : Stm} (h : s ∈ S) : ∃ i, i < S.length ∧ S.getD i noStm = s := by
  obtain ⟨i, hi, he⟩ := List.mem_iff_getElem.1 h
  exact ⟨i, hi, by rw [stm_at hi, he]⟩
theorem Ord10.times {S : List Stm} (h : Ord10 S) {a b : Stm} (ha : a ∈ S) (hb : b ∈ S) (he : a.author = b.author) (hn : a.number < b.number) : a.time ≤ b.time := by
  obtain ⟨i, hi, rfl⟩ := mem_at ha
  obtain ⟨j, hj, rfl⟩ := mem_at hb
  have hij : i < j := by
    rcases Nat.lt_or_ge j i with hc | hc
    · have := h.at hc hi; omega
    · rcases Nat.lt_or_ge i j with hd | hd
      · exact hd
      · rw [show i = j by omega] at hn; omega
  have := h.mono i (j - i) (by omega) (by rw [show i + (j - i) = j by omega]; exact he)
  rwa [show i + (j - i) = j by omega] at this
theorem Ord10.until {S : List Stm} (h : Ord10 S) (tm : Int) : Ord10 (untilS tm S) :=
  ⟨fun s hs => h.ok s ((List.mem_filter.1 hs).1), h.link.until tm fun _ hp _ => hp, h.ord.sublist (List.filter_sublist)⟩
/-- What revokes a vouch. -/
def revB (s x : Stm) : Prop := x.author = s.author ∧ s.number < x.number ∧ x.kind = 2 ∧ x.a = s.number
theorem revoked_first {S : List Stm} {s : Stm} : ∀ {l : List Stm}, (∀ a ∈ l, a ∈ S) → l.Pairwise (fun a b => a.author = b.author → a.time ≤ b.time) → (∀ a ∈ l, 0 ≤ a.time) →
    ((∀ x ∈ l, ¬ revB s x) ∧ revokedS l s = -1) ∨ ∃ x ∈ l, revB s x ∧ revokedS l s = x.time ∧ 0 ≤ x.time ∧ ∀ y ∈ l, revB s y → x.time ≤ y.time
  | [], _, _, _ => .inl ⟨fun _ h => (nomatch h), rfl⟩
  | x :: l, hS, hp, h0 => by
    have hp2 := List.pairwise_cons.1 hp
    by_cases hx : revB s x
    · refine .inr ⟨x, List.mem_cons.2 (.inl rfl), hx, ?_, h0 x (List.mem_cons.2 (.inl rfl)), fun y hy hr => ?_⟩
      · exact if_pos hx
      · rcases List.mem_cons.1 hy with rfl | hy
        · exact Int.le_refl _
        · exact hp2.1 y hy (by rw [hx.1, hr.1])
    · have hr : revokedS (x :: l) s = revokedS l s := by
        exact if_neg hx
      rw [hr]
      rcases revoked_first (fun a ha => hS a (List.mem_cons.2 (.inr ha))) hp2.2 (fun a ha => h0 a (List.mem_cons.2 (.inr ha))) with ⟨h1, h2⟩ | ⟨z, hz, h1, h2, h3, h4⟩
      · refine .inl ⟨fun y hy hc => ?_, h2⟩
        rcases List.mem_cons.1 hy with rfl | hy
        · exact hx hc
        · exact h1 y hy hc
      · refine .inr ⟨z, List.mem_cons.2 (.inr hz), h1, h2, h3, fun y hy hc => ?_⟩
        rcases List.mem_cons.1 hy with rfl | hy
        · exact absurd hc hx
        · exact h4 y hy hc
/-- A vouch is revoked by a time if and only if a statement by then says so. -/
theorem revoked_by {S : List Stm} (h : Ord10 S) (s : Stm) (tm : Int) : (revokedS S s = -1 ∨ tm < revokedS S s) ↔ ¬ ∃ x ∈ S, revB s x ∧ x.time ≤ tm := by
  have h1 : S.Pairwise (fun a b => a.author = b.author → a.time ≤ b.time) := by
    rw [List.pairwise_iff_getElem]
    intro i j hi hj hij ha
    have := h.mono i (j - i) (by omega) (by rw [show i + (j - i) = j by omega, stm_at hi, stm_at hj]; exact ha)
    rwa [show i + (j - i) = j by omega, stm_at hi, stm_at hj] at this
  rcases revoked_first (S := S) (s := s) (fun a ha => ha) h1 (fun a ha => (check_bounds (h.ok a ha)).1) with ⟨h2, h3⟩ | ⟨x, hx, h2, h3, h4, h5⟩
  · exact ⟨fun _ ⟨x, hx, hr, _⟩ => h2 x hx hr, fun _ => .inl h3⟩
  · rw [h3]
    constructor
    · rintro (h6 | h6) ⟨y, hy, hr, ht⟩
      · omega
      · have := h5 y hy hr; omega
    · intro h6
      by_cases h7 : x.time ≤ tm
      · exact absurd ⟨x, hx, h2, h7⟩ h6
      · exact .inr (by omega)
theorem activeUp_mem (all : List Vou) (gone : List Int) (tm : Int) (y : Vou) : ∀ i, y ∈ activeUp all gone tm i ↔ ∃ j, j < i ∧ keepV all gone tm j = true ∧ y = all.getD j noVou
  | 0 => ⟨fun h => (nomatch h), fun ⟨_, h, _⟩ => absurd h (Nat.not_lt_zero _)⟩
  | i + 1 => by
    unfold activeUp
    rw [List.mem_append, activeUp_mem all gone tm y i]
    constructor
    · rintro (⟨j, h1, h2⟩ | h)
      · exact ⟨j, by omega, h2⟩
      · split at h
        · rename_i hk
          exact ⟨i, by omega, hk, List.mem_singleton.1 h⟩
        · cases h
    · rintro ⟨j, h1, h2, h3⟩
      by_cases hji : j = i
      · right
        rw [hji] at h2 h3
        rw [if_pos h2, h3]
        exact List.mem_singleton.2 rfl
      · exact .inl ⟨j, by omega, h2, h3⟩
theorem activeUp_sorted {all : List Vou} (h : all.Pairwise ltV) (gone : List Int) (tm : Int) : ∀ i, i ≤ all.length → (activeUp all gone tm i).Pairwise ltV
  | 0, _ => List.Pairwise.nil
  | i + 1, hi => by
    unfold activeUp
    refine List.pairwise_append.2 ⟨activeUp_sorted h gone tm i (by omega), by split <;> simp, fun a ha b hb => ?_⟩
    obtain ⟨j, hj, _, rfl⟩ := (activeUp_mem all gone tm a i).1 ha
    split at hb
    · rw [List.mem_singleton.1 hb]
      exact sortV_at h hj (by omega)
    · cases hb
end Go.Proofs.YtnmpbjgccbnomaaGreat
/- What is active, told by statements; what is active does not depend on statements with a later time. -/
namespace Go.Proofs.YtnmpbjgccbnomaaGreat
open Go.RowKit
theorem vouches_times {S : List Stm} (h : Ord10 S) {y z : Vou} (hy : y ∈ vouchesS S) (hz : z ∈ vouchesS S) (he : y.fr = z.fr) (hn : y.nu < z.nu) : y.tm ≤ z.tm := by
  obtain ⟨s, hs, _, rfl⟩ := (vouches_mem h y).1 hy
  obtain ⟨t, ht, _, rfl⟩ := (vouches_mem h z).1 hz
  exact h.times hs ht he hn
theorem getV_mem {l : List Vou} {i : Nat} (h : i < l.length) : l.getD i noVou ∈ l := by rw [getDV h]; exact List.getElem_mem _
theorem later_iff {S : List Stm} (h : Ord10 S) (tm : Int) (i : Nat) (hi : i < (vouchesS S).length) : laterB (vouchesS S) tm i = true ↔ ∃ y ∈ vouchesS S, y.fr = ((vouchesS S).getD i noVou).fr ∧ y.tu = ((vouchesS S).getD i noVou).tu ∧ ((vouchesS S).getD i noVou).nu < y.nu ∧ y.tm ≤ tm := by
  have hs := vouches_sorted h
  have ht := @vouches_times S h
  generalize vouchesS S = all at *
  unfold laterB
  simp only [Bool.and_eq_true, decide_eq_true_eq]
  constructor
  · rintro ⟨h1, h2, h3, h4⟩
    refine ⟨_, getV_mem h1, h2, h3, ?_, h4⟩
    have := sortV_at hs (show i < i + 1 by omega) h1
    unfold ltV at this
    omega
  · rintro ⟨y, hy, h2, h3, h4, h5⟩
    obtain ⟨k, hk, rfl⟩ := memV hy
    have hik : i < k := by
      rcases Nat.lt_or_ge k i with hc | hc
      · have := sortV_at hs hc hi
        unfold ltV at this
        omega
      · rcases Nat.lt_or_ge i k with hd | hd
        · exact hd
        · rw [show i = k by omega] at h4; omega
    have h1 : i + 1 < all.length := by omega
    have h6 := sortV_at hs (show i < i + 1 by omega) h1
    by_cases hk1 : k = i + 1
    · rw [← hk1]; exact ⟨hk, h2, h3, h5⟩
    · have h7 := sortV_at hs (show i + 1 < k by omega) hk
      have h8 : (all.getD (i + 1) noVou).fr = (all.getD i noVou).fr ∧ (all.getD (i + 1) noVou).tu = (all.getD i noVou).tu ∧ (all.getD (i + 1) noVou).nu < (all.getD k noVou).nu := by unfold ltV at h6 h7; omega
      have h9 := ht (getV_mem h1) hy (by omega) h8.2.2
      exact ⟨h1, h8.1, h8.2.1, by omega⟩
/-- A vouch that is active at a time. -/
structure ActS (S : List Stm) (tm : Int) (s : Stm) : Prop where
  mem : s ∈ S
  kind : s.kind = 1
  time : s.time ≤ tm
  ends : tm < s.c
  rev : ¬ ∃ x ∈ S, revB s x ∧ x.time ≤ tm
  last : ¬ ∃ t ∈ S, t.kind = 1 ∧ t.author = s.author ∧ t.a = s.a ∧ s.number < t.number ∧ t.time ≤ tm
  here : hasI (goneS S tm) s.author = false
  there : hasI (goneS S tm) s.a = false
theorem active_mem {S : List Stm} (h : Ord10 S) (tm : Int) (y : Vou) : y ∈ activeS S tm ↔ ∃ s, ActS S tm s ∧ y = vouOf S s := by
  unfold activeS activeOf
  rw [activeUp_mem]
  have hk : ∀ j, j < (vouchesS S).length → ∀ s, s ∈ S → s.kind = 1 → (vouchesS S).getD j noVou = vouOf S s → (keepV (vouchesS S) (goneS S tm) tm j = true ↔ ActS S tm s) := fun j hj s hs hk he => by
    have hl := later_iff h tm j hj
    have hr := revoked_by h s tm
    have hlb : laterB (vouchesS S) tm j = true ↔ ∃ t ∈ S, t.kind = 1 ∧ t.author = s.author ∧ t.a = s.a ∧ s.number < t.number ∧ t.time ≤ tm := by
      rw [hl, he]
      constructor
      · rintro ⟨y, hy, h1, h2, h3, h4⟩
        obtain ⟨t, ht, hk, rfl⟩ := (vouches_mem h y).1 hy
        exact ⟨t, ht, hk, h1, h2, h3, h4⟩
      · rintro ⟨t, ht, hk, h1, h2, h3, h4⟩
        exact ⟨_, (vouches_mem h _).2 ⟨t, ht, hk, rfl⟩, h1, h2, h3, h4⟩
    unfold keepV
    rw [he]
    simp only [Bool.and_eq_true, Bool.or_eq_true, decide_eq_true_eq, Bool.not_eq_true']
    constructor
    · rintro ⟨h1, h2, h3, h4, h5, h6⟩
      exact ⟨hs, hk, h1, h2, hr.1 h3, fun hc => (by rw [hlb.2 hc] at h4; cases h4), h5, h6⟩
    · intro a
      refine ⟨a.time, a.ends, hr.2 a.rev, ?_, a.here, a.there⟩
      cases hc : laterB (vouchesS S) tm j with
      | false => rfl
      | true => exact absurd (hlb.1 hc) a.last
  constructor
  · rintro ⟨j, hj, h1, rfl⟩
    obtain ⟨s, hs, hki, he⟩ := (vouches_mem h _).1 (getV_mem hj)
    exact ⟨s, (hk j hj s hs hki he).1 h1, he⟩
  · rintro ⟨s, ha, rfl⟩
    obtain ⟨j, hj, he⟩ := memV ((vouches_mem h _).2 ⟨s, ha.mem, ha.kind, rfl⟩)
    exact ⟨j, hj, (hk j hj s ha.mem ha.kind he).2 ha, he.symm⟩
theorem active_sorted {S : List Stm} (h : Ord10 S) (tm : Int) : (activeS S tm).Pairwise ltV := activeUp_sorted (vouches_sorted h) _ _ _ (Nat.le_refl _)
theorem until_iff (tm : Int) (S : List Stm) (s : Stm) : s ∈ untilS tm S ↔ s ∈ S ∧ s.time ≤ tm := by
  unfold untilS
  rw [List.mem_filter, decide_eq_true_eq]
/-- Two lists in one strict order with the same elements are the same. -/
theorem sorted_ext {α : Type} {r : α → α → Prop} (hr : ∀ a b, r a b → ¬ r b a) : ∀ {l m : List α}, l.Pairwise r → m.Pairwise r → (∀ x, x ∈ l ↔ x ∈ m) → l = m
  | [], [], _, _, _ => rfl
  | [], b :: m, _, _, h => absurd ((h b).2 (List.mem_cons.2 (.inl rfl))) (by simp)
  | a :: l, [], _, _, h => absurd ((h a).1 (List.mem_cons.2 (.inl rfl))) (by simp)
  | a :: l, b :: m, hl, hm, h => by
    have hl2 := List.pairwise_cons.1 hl
    have hm2 := List.pairwise_cons.1 hm
    have hab : a = b := by
      rcases List.mem_cons.1 ((h a).1 (List.mem_cons.2 (.inl rfl))) with e | e
      · exact e
      · rcases List.mem_cons.1 ((h b).2 (List.mem_cons.2 (.inl rfl))) with f | f
        · exact f.symm
        · exact absurd (hm2.1 a e) (hr _ _ (hl2.1 b f))
    subst hab
    rw [sorted_ext hr hl2.2 hm2.2 fun x => ?_]
    constructor
    · intro hx
      rcases List.mem_cons.1 ((h x).1 (List.mem_cons.2 (.inr hx))) with e | e
      · subst e
        have := hl2.1 x hx
        exact absurd this (hr _ _ this)
      · exact e
    · intro hx
      rcases List.mem_cons.1 ((h x).2 (List.mem_cons.2 (.inr hx))) with e | e
      · subst e
        have := hm2.1 x hx
        exact absurd this (hr _ _ this)
      · exact e
end Go.Proofs.YtnmpbjgccbnomaaGreat
