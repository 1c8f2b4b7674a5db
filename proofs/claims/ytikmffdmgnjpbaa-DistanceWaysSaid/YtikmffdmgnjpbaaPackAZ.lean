import Derived.Test.YtikmffdmgnjpbaaDrWayP
import Derived.Test.YtikmffdmgnjpbaaPackAY
import Derived.Test.YtikmffdmgnjpbaaPackAM
import Derived.Test.YtikmffdmgnjpbaaPackAJ
import Derived.Test.YtikmffdmgnjpbaaGGraphP
import Derived.Test.YtikmffdmgnjpbaaPackAP
import Derived.Test.YtikmffdmgnjpbaaPackAA
import Derived.ProofKit
import Derived.OpenShut
import Derived.Carry
import Derived.Handed
import Derived.ChangeMaps5
/- The law of layer 12 on one graph. -/
namespace Go.Proofs.Ytikmffdmgnjpbaa
open Go.RowKit
theorem refAll_i (G : Gr) (v : Value) (A2 : Option Addr) (n2 c2 : Nat) (seeds : List Int) (w : World) (h : GHold w G v) (hgd : Good11 G) (hs : IRow w A2 n2 c2 seeds) (hn2 : n2 ≤ 100000) : Calls Try.prog 25 #[v, .slice A2 n2 c2] w (GivesI w (allD G seeds)) := by
  refine (refAll_any G v A2 n2 c2 seeds w h hgd hs hn2).mono ?_
  rintro e w' ⟨v', rfl, ho, hb⟩
  obtain ⟨A, c, rfl, hr⟩ := Row.of_own ho
  exact ⟨A, _, c, rfl, hr, hb⟩
theorem all_i (G : Gr) (v : Value) (A2 : Option Addr) (n2 c2 : Nat) (seeds : List Int) (w : World) (h : GHold w G v) (hgd : Good11 G) (hs : IRow w A2 n2 c2 seeds) (hn2 : n2 ≤ 100000) : Calls Try.prog 15 #[v, .slice A2 n2 c2] w (GivesI w (allD G seeds)) := by
  refine (all_any G v A2 n2 c2 seeds w h hgd hs hn2).mono ?_
  rintro e w' ⟨gd, rfl, hd, -, hb⟩
  exact ⟨_, _, _, rfl, hd.row' (allD_dist hgd seeds).len, hb⟩
theorem wayD_len (G : Gr) (hgd : Good11 G) (seeds : List Int) (key : Int) : (wayD G seeds key).1.length ≤ 100 := by
  unfold wayD
  split
  · rename_i h
    have hlo := hgd.lo
    have hhi := hgd.hi
    have hd := allD_dist hgd seeds
    have h1 := hd.lt (k := key) h.1 (by omega)
    rw [(way_up hd (good_inZ hgd) h.1 (by omega) h.2.2 _ (by omega)).len]
    omega
  · exact Nat.zero_le _
theorem orderD_len {d : List Int} {z : Nat} : (orderD d z).length ≤ z := by
  have hn : (orderD d z).Nodup := List.Pairwise.imp (fun {a b} h e => by unfold ltD at h; rw [e] at h; omega) (orderD_asc d z)
  have h := nodup_below z ((orderD d z).map fun k => k.toNat) (by
    rw [List.nodup_iff_pairwise_ne, List.pairwise_map]
    refine List.Pairwise.imp_of_mem ?_ hn
    intro a b ha hb hne e
    have h1 := orderD_mem.1 ha
    have h2 := orderD_mem.1 hb
    omega) fun x hx => by
      obtain ⟨k, hk, rfl⟩ := List.mem_map.1 hx
      have h1 := orderD_mem.1 hk
      omega
  rwa [List.length_map] at h
set_option maxRecDepth 100000 in
set_option maxHeartbeats 4000000 in
theorem agree12_any (G : Gr) (v : Value) (A2 : Option Addr) (n2 c2 : Nat) (seeds : List Int) (w : World) (h : GHold w G v) (hgd : Good11 G) (hs : IRow w A2 n2 c2 seeds) (hn2 : n2 ≤ 100000) : Calls Try.prog 11 #[v, .slice A2 n2 c2] w (SaysL (.bool true) w) := by
  have HGH := Lib.hid h
  obtain ⟨A, n, c, B, m, k, rfl, -, -⟩ := h
  have HNW := Lib.hid (one_new w (.cells #[.int .i64 G.sz, .slice A n c, .slice B m k] 29))
  have HX0 : Hid ((w.alloc (.cells #[.int .i64 G.sz, .slice A n c, .slice B m k] 29)).heap[w.heap.size]? = some (.cells #[.int .i64 G.sz, .slice A n c, .slice B m k] 29 (0, 0))) := Lib.hid (heap_alloc_new _ _)
  have HW1 : Hid (∀ y key, Below w.heap.size w y → Calls Try.prog 16 #[.agg #[.int .i64 G.sz, .slice A n c, .slice B m k], .slice A2 n2 c2, .int .i64 key] y (GivesIB y (wayD G seeds key))) := Lib.hid fun y key hy => way_any G _ A2 n2 c2 seeds key y (HGH.out.later hy) hgd (hs.later hy) hn2
  have HW2 : Hid (∀ y key, Below w.heap.size w y → Calls Try.prog 23 #[.agg #[.int .i64 G.sz, .slice A n c, .slice B m k], .slice A2 n2 c2, .int .i64 key] y (GivesIB y (wayD G seeds key))) := Lib.hid fun y key hy => refWay_any G _ A2 n2 c2 seeds key y (HGH.out.later hy) hgd (hs.later hy) hn2
  have HA1 : Hid (∀ y, Below w.heap.size w y → Calls Try.prog 15 #[.agg #[.int .i64 G.sz, .slice A n c, .slice B m k], .slice A2 n2 c2] y (GivesI y (allD G seeds))) := Lib.hid fun y hy => all_i G _ A2 n2 c2 seeds y (HGH.out.later hy) hgd (hs.later hy) hn2
  have HA2 : Hid (∀ y, Below w.heap.size w y → Calls Try.prog 25 #[.agg #[.int .i64 G.sz, .slice A n c, .slice B m k], .slice A2 n2 c2] y (GivesI y (allD G seeds))) := Lib.hid fun y hy => refAll_i G _ A2 n2 c2 seeds y (HGH.out.later hy) hgd (hs.later hy) hn2
  have HO1 : Hid (∀ y, Below w.heap.size w y → Calls Try.prog 21 #[.agg #[.int .i64 G.sz, .slice A n c, .slice B m k], .slice A2 n2 c2] y (GivesI y (orderD (allD G seeds) G.sz.toNat))) := Lib.hid fun y hy => order_any12 G _ A2 n2 c2 seeds y (HGH.out.later hy) hgd (hs.later hy) hn2
  have HO2 : Hid (∀ y, Below w.heap.size w y → Calls Try.prog 26 #[.agg #[.int .i64 G.sz, .slice A n c, .slice B m k], .slice A2 n2 c2] y (GivesI y (orderD (allD G seeds) G.sz.toNat))) := Lib.hid fun y hy => refOrder_any12 G _ A2 n2 c2 seeds y (HGH.out.later hy) hgd (hs.later hy) hn2
  have HWL : Hid (∀ key, (wayD G seeds key).1.length ≤ 100) := Lib.hid fun key => wayD_len G hgd seeds key
  have hlo := hgd.lo
  have hhi := hgd.hi
  have HAL : Hid ((allD G seeds).length ≤ 100) := Lib.hid (by rw [(allD_dist hgd seeds).len]; omega)
  have HOL : Hid ((orderD (allD G seeds) G.sz.toNat).length ≤ 100) := Lib.hid (by have := orderD_len (d := allD G seeds) (z := G.sz.toNat); omega)
  obtain ⟨z, hz⟩ : ∃ z : Nat, G.sz = (z : Int) := ⟨G.sz.toNat, by omega⟩
  have HGZ := Lib.hid hz
  have hz64 : z ≤ 64 := by omega
  generalize allD G seeds = AD at *
  generalize orderD AD G.sz.toNat = OD at *
  generalize wayD G seeds = WD at *
  clear hs hgd HGH hlo hhi hz
  go_enter Try.func11, Try.ntmps11
  go_wp2_with fail
  have HSZ : Hid (w.heap.size + 1 = (w.alloc (.cells #[.int .i64 G.sz, .slice A n c, .slice B m k] 29)).heap.size) := Lib.hid (by simp)
  generalize w.alloc (.cells #[.int .i64 G.sz, .slice A n c, .slice B m k] 29) = y0 at *
  obtain ⟨g0, hgg⟩ : ∃ g, w.heap.size = g := ⟨_, rfl⟩
  have HGG := Lib.hid hgg
  rw [hgg]
  clear hgg
  go_loopw [5] (fun i wr => ∃ j : Nat, j ≤ z + 2 ∧ i = .int .i64 ((j : Int) - 1) ∧ Hid (Below y0.heap.size y0 wr)) (fun i _ => z + 2 - (intOf i + 1).toNat)
  case atStart => exact ⟨0, Nat.zero_le _, rfl, Lib.hid (Below.refl _ _)⟩
  case round =>
    obtain ⟨j, hj, rfl, HQ⟩ := hrel
    have HX : Hid (wr.heap[g0]? = some (.cells #[.int .i64 G.sz, .slice A n c, .slice B m k] 29 (0, 0))) := Lib.hid ((HQ.out.block _ (by have := HSZ.out; have := HGG.out; omega)).trans (by rw [← HGG.out]; exact HX0.out))
    have HL : Hid (Below w.heap.size w wr) := Lib.hid (HNW.out.trans (HQ.out.mono (by have := HSZ.out; omega)))
    have hg0 : wr.cell? ⟨g0, 0, none⟩ = some (.int .i64 G.sz) := (cell_of_row _ _ 0 _ _ _ HX.out).trans rfl
    rw [HGZ.out] at hg0
    by_cases hlt : j < z + 2
    · have hlt2 : (j : Int) - 1 ≤ (z : Int) := by omega
      have HCW := Lib.hid (HW1.out wr ((j : Int) - 1) HL.out)
      go_wp2_with (refine wpList_load_row rfl 29 (.tmp 2) rfl g0 rfl 29 #[.int .i64 G.sz, .slice A n c, .slice B m k] (0, 0) _ HX.out Try.underlying29 rfl gr_size ?_)
      clear hg0
      refine HCW.out.mono ?_
      rintro e w1 ⟨A4, n4, c4, rfl, hr, hb⟩
      have HR := Lib.hid hr
      have HX1 := Lib.hid ((hb.block _ (Array.getElem?_eq_some_iff.1 HX.out).1).trans HX.out)
      have HLy : Hid (Below y0.heap.size y0 w1) := Lib.hid (HQ.out.trans (hb.mono HQ.out.size))
      have HL1 : Hid (Below w.heap.size w w1) := Lib.hid (HL.out.trans (hb.mono HL.out.size))
      clear hr hb HCW HX HL HQ
      have HCW := Lib.hid (HW2.out w1 ((j : Int) - 1) HL1.out)
      go_wp2_with (refine wpList_load_row rfl 29 (.tmp 2) rfl g0 rfl 29 #[.int .i64 G.sz, .slice A n c, .slice B m k] (0, 0) _ HX1.out Try.underlying29 rfl gr_size ?_)
      refine HCW.out.mono ?_
      rintro e w2 ⟨A5, n5, c5, rfl, hr, hb⟩
      have HR2 := Lib.hid hr
      have HR1 := Lib.hid (HR.out.later hb)
      have HLy2 : Hid (Below y0.heap.size y0 w2) := Lib.hid (HLy.out.trans (hb.mono HLy.out.size))
      have HNL := Lib.hid (HWL.out ((j : Int) - 1))
      clear hr hb HCW HX1 HL1 HLy HR
      generalize WD ((j : Int) - 1) = P at *
      have hb2 : (P.2 != P.2) = false := by simp
      generalize P.2 = p2 at *
      have HCS := Lib.hid (sameI_self A4 n4 c4 A5 n5 c5 P.1 w2 HR1.out HR2.out (by rw [← HR1.out.len]; have := HNL.out; omega))
      clear HR1 HR2 HNL
      go_wp2_with fail
      refine HCS.out.mono ?_
      rintro e w3 ⟨rfl, hb⟩
      have HLy3 : Hid (Below y0.heap.size y0 w3) := Lib.hid (HLy2.out.trans (hb.mono HLy2.out.size))
      clear hb HCS HLy2
      go_wp2_with fail
      exact ⟨⟨j + 1, by omega, by first | go_num | (congr 1; omega), HLy3⟩, by simp [intOf]; omega⟩
    · have hlt2 : ¬ (j : Int) - 1 ≤ (z : Int) := by omega
      clear hg0
      have hg0 : wr.cell? ⟨g0, 0, none⟩ = some (.int .i64 G.sz) := (cell_of_row _ _ 0 _ _ _ HX.out).trans rfl
      rw [HGZ.out] at hg0
      go_upto_region 8 with fail
      clear hg0
      refine wp_region_grow (by kernel_rfl) Later Later.refl (fun _ _ _ => Later.trans) [15, 16] [([0, 1, 3, 4], 2), ([], 5), ([], 6), ([7, 8, 9, 11, 12], 10), ([], 13), ([], 14)] (by kernel_rfl) (by kernel_rfl) (by kernel_rfl) ?_
      simp only [List.map_cons, List.map_nil, pick, List.getD_cons_zero, List.getD_cons_succ]
      replace HX : Hid (wr.drew.heap[g0]? = some (.cells #[.int .i64 G.sz, .slice A n c, .slice B m k] 29 (0, 0))) := Lib.hid HX.out
      replace HL : Hid (Below w.heap.size w wr.drew) := Lib.hid HL.out.drew
      clear HQ
      generalize wr.drew = z0 at *
      have hfg : ∀ x, (loadVar 29 ⟨g0, 0, none⟩).run Try.prog (fut Later z0 x) = .ok (.agg #[.int .i64 G.sz, .slice A n c, .slice B m k]) (fut Later z0 x) := fun x => run_loadVar_row _ g0 29 29 #[.int .i64 G.sz, .slice A n c, .slice B m k] (0, 0) _ (((fut_ok Later.refl z0 x).block g0 (Array.getElem?_eq_some_iff.1 HX.out).1).trans HX.out) Try.underlying29 rfl gr_size
      refine wpGrow_cons ?_
      repeat (first | (refine wpQuiet_load rfl 29 (.tmp 2) rfl ⟨g0, 0, none⟩ rfl (.agg #[.int .i64 G.sz, .slice A n c, .slice B m k]) (fun w' h => by obtain ⟨x, rfl⟩ := h; exact hfg x) ?_; simp only [Act.put, List.setIfInBounds_toArray, List.set_cons_succ, List.set_cons_zero]) | go_big_quiet_step (fail))
      refine wpQuiet_nil ?_
      clear hfg
      have HC := Lib.hid (HA1.out z0 HL.out)
      go_wp2_with fail
      refine HC.out.mono ?_
      rintro e z1 ⟨A4, n4, c4, rfl, hr, hb⟩
      have HF := Lib.hid hb
      have HR1 := Lib.hid hr
      have HLz : Hid (Below w.heap.size w z1) := Lib.hid (HL.out.trans (hb.mono HL.out.size))
      have HXz := Lib.hid ((hb.block _ (Array.getElem?_eq_some_iff.1 HX.out).1).trans HX.out)
      clear hr hb HC HL HX
      go_wp2_with fail
      refine pieceEnd_normal ⟨HF.out, ?_⟩
      clear HF
      refine wpGrow_cons ?_
      refine wpQuiet_nil ?_
      have HC := Lib.hid (HA2.out z1 HLz.out)
      go_wp2_with fail
      refine HC.out.mono ?_
      rintro e z2 ⟨A5, n5, c5, rfl, hr, hb⟩
      have HF := Lib.hid hb
      have HR2 := Lib.hid hr
      replace HR1 := Lib.hid (HR1.out.later hb)
      have HL := Lib.hid (HLz.out.trans (hb.mono HLz.out.size))
      have HX := Lib.hid ((hb.block _ (Array.getElem?_eq_some_iff.1 HXz.out).1).trans HXz.out)
      clear hr hb HC HLz HXz
      go_wp2_with fail
      refine pieceEnd_normal ⟨HF.out, ?_⟩
      clear HF
      refine wpGrow_cons ?_
      refine wpQuiet_nil ?_
      have HC := Lib.hid (sameI_self A4 n4 c4 A5 n5 c5 AD z2 HR1.out HR2.out (by rw [← HR1.out.len]; have := HAL.out; omega))
      go_wp2_with fail
      refine HC.out.mono ?_
      rintro e z3 ⟨rfl, hb⟩
      have HF := Lib.hid hb
      have HLz := Lib.hid (HL.out.trans (hb.mono HL.out.size))
      replace HX := Lib.hid ((hb.block _ (Array.getElem?_eq_some_iff.1 HX.out).1).trans HX.out)
      clear hb HC HL HR1 HR2
      go_wp2_with fail
      refine pieceEnd_normal ⟨HF.out, ?_⟩
      clear HF
      have hfg : ∀ x, (loadVar 29 ⟨g0, 0, none⟩).run Try.prog (fut Later z3 x) = .ok (.agg #[.int .i64 G.sz, .slice A n c, .slice B m k]) (fut Later z3 x) := fun x => run_loadVar_row _ g0 29 29 #[.int .i64 G.sz, .slice A n c, .slice B m k] (0, 0) _ (((fut_ok Later.refl z3 x).block g0 (Array.getElem?_eq_some_iff.1 HX.out).1).trans HX.out) Try.underlying29 rfl gr_size
      refine wpGrow_cons ?_
      repeat (first | (refine wpQuiet_load rfl 29 (.tmp 2) rfl ⟨g0, 0, none⟩ rfl (.agg #[.int .i64 G.sz, .slice A n c, .slice B m k]) (fun w' h => by obtain ⟨x, rfl⟩ := h; exact hfg x) ?_; simp only [Act.put, List.setIfInBounds_toArray, List.set_cons_succ, List.set_cons_zero]) | go_big_quiet_step (fail))
      refine wpQuiet_nil ?_
      clear hfg
      have HC := Lib.hid (HO1.out z3 HLz.out)
      go_wp2_with fail
      refine HC.out.mono ?_
      rintro e z4 ⟨A6, n6, c6, rfl, hr, hb⟩
      have HF := Lib.hid hb
      have HR1 := Lib.hid hr
      have HL := Lib.hid (HLz.out.trans (hb.mono HLz.out.size))
      clear hr hb HC HLz HX
      go_wp2_with fail
      refine pieceEnd_normal ⟨HF.out, ?_⟩
      clear HF
      refine wpGrow_cons ?_
      refine wpQuiet_nil ?_
      have HC := Lib.hid (HO2.out z4 HL.out)
      go_wp2_with fail
      refine HC.out.mono ?_
      rintro e z5 ⟨A7, n7, c7, rfl, hr, hb⟩
      have HF := Lib.hid hb
      have HR2 := Lib.hid hr
      replace HR1 := Lib.hid (HR1.out.later hb)
      have HLz := Lib.hid (HL.out.trans (hb.mono HL.out.size))
      clear hr hb HC HL
      go_wp2_with fail
      refine pieceEnd_normal ⟨HF.out, ?_⟩
      clear HF
      refine wpGrow_cons ?_
      refine wpQuiet_nil ?_
      have HC := Lib.hid (sameI_self A6 n6 c6 A7 n7 c7 OD z5 HR1.out HR2.out (by rw [← HR1.out.len]; have := HOL.out; omega))
      go_wp2_with fail
      refine HC.out.mono ?_
      rintro e z6 ⟨rfl, hb⟩
      have HF := Lib.hid hb
      have HL := Lib.hid (HLz.out.trans (hb.mono HLz.out.size))
      clear hb HC HLz HR1 HR2
      go_wp2_with fail
      refine pieceEnd_normal ⟨HF.out, ?_⟩
      clear HF
      refine wpGrow_nil ?_
      repeat (go_big_quiet_step (fail))
      refine wpQuiet_nil ?_
      go_wp2_with fail
      go_ret
      rw [← HGG.out]
      exact ⟨rfl, HL.out⟩
end Go.Proofs.Ytikmffdmgnjpbaa
/- The walk of trustflowmade's dice: Some. -/
namespace Go.Proofs.Ytikmffdmgnjpbaa
open Go.RowKit
set_option maxRecDepth 20000 in
set_option maxHeartbeats 1000000 in
theorem some_any (L D : Nat) (t : List Int) (k : Nat) (n : Nat) (w : World) (h : DiceAt w L D t k) (hn : n ≤ 100000) :
    Calls Try.prog 12 #[.pointer (some ⟨D, 0, none⟩), .int .i64 n] w fun e w' => ∃ v, e = .returned v ∧ IOwn w' w.heap.size v (diceSs t n k).1 ∧ DiceAt w' L D t (diceSs t n k).2 ∧ But D w w' := by
  have H := Lib.hid h; have hD := h.lt; clear h
  go_enter Try.func12, Try.ntmps12
  go_wp2_with fail
  go_loopw [5, 6] (fun v i wr => ∃ j : Nat, j ≤ n ∧ i = .int .i64 j ∧ Hid (IOwn wr w.heap.size v (diceSs t j k).1 ∧ DiceAt wr L D t (diceSs t j k).2 ∧ But D w wr)) (fun _ i _ => n - (intOf i).toNat)
  case atStart => exact ⟨0, by omega, rfl, Lib.hid ⟨World.ownsRow_nil _ _ _ _, H.out, But.refl _ _⟩⟩
  case round =>
    obtain ⟨j, hj, rfl, HQ⟩ := hrel
    have hlen := Lib.hid (diceSs_len t j k)
    by_cases hlt : j < n
    · have hbd := diceV_bd t (diceSs t j k).2 3 (by omega)
      go_wp2_with fail
      refine (next_any L D t (diceSs t j k).2 3 wr HQ.out.2.1 (by omega) (by omega)).mono ?_
      rintro e w2 ⟨rfl, hd, hb⟩
      have ho : IOwn w2 w.heap.size _ (diceSs t j k).1 := own_but HQ.out.1 hb hD
      have hb2 := HQ.out.2.2.trans hb
      have HN : Hid (diceSs t (j + 1) k = (if diceV t (diceSs t j k).2 3 = 0 then (diceSs t j k).1 ++ [(j : Int)] else (diceSs t j k).1, diceK t (diceSs t j k).2)) := Lib.hid rfl
      generalize diceV t (diceSs t j k).2 3 = x at hbd HN ⊢
      have HO := Lib.hid ho; have HD2 := Lib.hid hd; have HB2 := Lib.hid hb2; clear ho hd hb hb2
      by_cases hx : x = 0
      · have g : decide (x = 0) = true := decide_eq_true hx
        have g1 : (x == 0) = true := by simpa using hx
        have HX := Lib.hid hx; clear hx
        go_wp2_with (at_builtin; go_must (refine wpList_app_new w2 rfl (.tmp 15) (.tmp 17) 22 3 rfl w.heap.size Try.underlying22 i64_info rfl _ _ _ HO.out rfl 1 #[.int .i64 j] rfl (by simp [Value.oneCell']) rfl rfl (by have := hlen.out; unfold maxLen; omega) (by have := hlen.out; omega) HB2.out.size ?_); intro v3 w3 ho3 hb3; have HO3 := Lib.hid ho3; have HB3 := Lib.hid hb3; clear ho3 hb3)
        refine ⟨⟨j + 1, by omega, by go_num, Lib.hid ⟨?_, ?_, ?_⟩⟩, by simp [intOf]; omega⟩
        · rw [HN.out, if_pos HX.out]
          unfold IOwn
          rw [intsV_app, List.length_append]
          exact HO3.out
        · rw [HN.out]; exact HD2.out.below HB3.out hD
        · exact HB2.out.grow HB3.out
      · have g : decide (x = 0) = false := decide_eq_false hx
        have g1 : (x == 0) = false := by simpa using hx
        have HX := Lib.hid hx; clear hx
        go_wp2
        refine ⟨⟨j + 1, by omega, by go_num, Lib.hid ⟨?_, ?_, HB2.out⟩⟩, by simp [intOf]; omega⟩
        · rw [HN.out, if_neg HX.out]; exact HO.out
        · rw [HN.out]; exact HD2.out
    · have HJ : Hid (j = n) := by unfold Hid; omega
      go_wp2
      go_ret
      rw [← HJ.out]
      exact ⟨_, rfl, HQ.out.1, HQ.out.2.1, HQ.out.2.2⟩
end Go.Proofs.Ytikmffdmgnjpbaa
/- What the laws of layer 12 keep in memory. -/
namespace Go.Proofs.Ytikmffdmgnjpbaa
open Go.RowKit
/-- What a law of layer 12 keeps in memory: the dice, the graph, the box that holds it. -/
structure DS (w : World) (D P g0 : Nat) (t : List Int) (G : Gr) (A : Option Addr) (n c : Nat) (B : Option Addr) (m k : Nat) (z : World) : Prop where
  dice : ∃ kd, DiceAt z w.heap.size D t kd
  own : GOwn z P G (.agg #[.int .i64 G.sz, .slice A n c, .slice B m k])
  base : Below w.heap.size w z
  box : z.heap[g0]? = some (.cells #[.int .i64 G.sz, .slice A n c, .slice B m k] 29 (0, 0))
  wd : w.heap.size ≤ D
  dp : D < P
  dg : D < g0
section
variable {w : World} {D P g0 : Nat} {t : List Int} {G : Gr} {A : Option Addr} {n c : Nat} {B : Option Addr} {m k : Nat} {z z' : World}
theorem DS.later (h : DS w D P g0 t G A n c B m k z) (hb : Below z.heap.size z z') : DS w D P g0 t G A n c B m k z' :=
  { h with
    dice := by obtain ⟨kd, hk⟩ := h.dice; exact ⟨kd, hk.later hb⟩
    own := h.own.later hb
    base := h.base.trans (hb.mono h.base.size)
    box := (hb.block _ (Array.getElem?_eq_some_iff.1 h.box).1).trans h.box }
theorem DS.gave (h : DS w D P g0 t G A n c B m k z) (hg : Gave w.heap.size D t z z') : DS w D P g0 t G A n c B m k z' :=
  { h with
    dice := hg.1
    own := h.own.but hg.2 h.dp
    base := h.base.trans (hg.2.below h.wd h.base.size)
    box := (hg.2.block g0 (Array.getElem?_eq_some_iff.1 h.box).1 (by have := h.dg; omega)).trans h.box }
theorem DS.drew (h : DS w D P g0 t G A n c B m k z) : DS w D P g0 t G A n c B m k z.drew := h.later (Below.refl _ _).drew
theorem DS.hold (h : DS w D P g0 t G A n c B m k z) : GHold z G (.agg #[.int .i64 G.sz, .slice A n c, .slice B m k]) := h.own.hold
theorem DS.lt (h : DS w D P g0 t G A n c B m k z) : D < z.heap.size := by obtain ⟨kd, hk⟩ := h.dice; exact hk.lt
theorem DS.rows (h : DS w D P g0 t G A n c B m k z) : ERow z A n c G.es ∧ IRow z B m k G.gn := by
  obtain ⟨A2, n2, c2, B2, m2, k2, he, h1, h2⟩ := h.hold
  injection he with he
  simp only [Array.mk.injEq, List.cons.injEq, and_true, true_and, Value.slice.injEq] at he
  obtain ⟨⟨rfl, rfl, rfl⟩, rfl, rfl, rfl⟩ := he
  exact ⟨h1, h2⟩
end
theorem some_g12 (L D : Nat) (t : List Int) (n : Nat) (w : World) (h : ∃ k, DiceAt w L D t k) (hn : n ≤ 100000) :
    Calls Try.prog 12 #[.pointer (some ⟨D, 0, none⟩), .int .i64 n] w fun e w' => ∃ v S, e = .returned v ∧ w'.ownsRow w.heap.size 3 1 v S.length (intsV S) ∧ S.length ≤ n ∧ Gave L D t w w' := by
  obtain ⟨k, hk⟩ := h
  refine (some_any L D t k n w hk hn).mono ?_
  rintro e w' ⟨v, rfl, ho, hd, hb⟩
  exact ⟨v, _, rfl, ho, diceSs_len t n k, ⟨_, hd⟩, hb⟩
theorem GHold.bare12 (w : World) (z : Int) : GHold w ⟨z, [], []⟩ (.agg #[.int .i64 z, .slice none 0 0, .slice none 0 0]) := GOwn.hold (B := 0) ⟨_, _, rfl, World.ownsRow_nil _ _ _ _, World.ownsRow_nil _ _ _ _⟩
theorem good_bare {z : Int} (h0 : 0 ≤ z) (h1 : z ≤ 64) : Good11 ⟨z, [], []⟩ := ⟨h0, h1, Nat.zero_le _, rfl, fun _ h => (nomatch h), fun _ h => (nomatch h), List.Pairwise.nil, fun _ h => (nomatch h)⟩
theorem modF_bd65 (n : Int) : 0 ≤ modF n 65 ∧ modF n 65 ≤ 64 := by
  unfold modF
  have h := Int.tmod_lt_of_pos n (show (0 : Int) < 65 by decide)
  have h2 := Int.lt_tmod_of_pos n (show (0 : Int) < 65 by decide)
  split <;> omega
end Go.Proofs.Ytikmffdmgnjpbaa
/- The walk of the law DistanceAll. -/
namespace Go.Proofs.Ytikmffdmgnjpbaa
open Go.RowKit
set_option maxRecDepth 100000 in
set_option maxHeartbeats 40000000 in
theorem dall_any (TA : Option Addr) (tn tc : Nat) (t : List Int) (SA : Option Addr) (sn sc : Nat) (S : List Int) (w : World) (ht : IRow w TA tn tc t) (hs : IRow w SA sn sc S) : Calls Try.prog 3 #[.slice TA tn tc, .slice SA sn sc] w (SaysL (.bool true) w) := by
  have HAW : Hid (∀ y, Calls Try.prog 8 #[] y (SaysL (.bool true) y)) := Lib.hid fun y => awake12_any y
  have HT := Lib.hid ht; have HSS := Lib.hid hs; clear ht hs
  go_enter Try.func3, Try.ntmps3
  go_wp2_with fail
  refine (light_any TA tn tc w).mono ?_
  rintro e w0 ⟨rfl, rfl⟩
  by_cases hn : tn ≤ 400
  · have gd : decide (tn ≤ 400) = true := decide_eq_true hn
    by_cases hs70 : sn ≤ 70
    · have gs : decide ((sn : Int) > 70) = false := decide_eq_false (by omega)
      have gs' : decide ((70 : Int) < (sn : Int)) = false := gs
      have gs2 : decide (70 < sn) = false := decide_eq_false (by omega)
      go_wp2_with fail
      clear gd gs gs' gs2
      refine (roll_any w.heap.size TA tn tc t w HT.out (by omega) (Nat.le_refl _) (fun ad e h0 => Row.lt HT.out (by decide) ad e h0)).mono ?_
      rintro e w1 ⟨rfl, hd, hb⟩
      obtain ⟨D, hD⟩ : ∃ D, D = w.heap.size := ⟨_, rfl⟩
      have HD : Hid (∃ kd, DiceAt w1 w.heap.size D t kd) := Lib.hid ⟨0, by rw [hD]; exact hd⟩
      have HB := Lib.hid hb
      have HDD : Hid (w.heap.size = D) := Lib.hid hD.symm
      rw [← hD]
      clear hd hb hD HT
      go_wp2_with fail
      refine (ggraph_g w.heap.size D t w1 HD.out).mono ?_
      rintro e w2 ⟨v0, G, rfl, ho, hgd, hsz, hone, hg⟩
      have HDP : Hid (D < w1.heap.size) := Lib.hid (by obtain ⟨kd, hk⟩ := HD.out; exact hk.lt)
      have HGD := Lib.hid hgd; have hsz2 := hsz; have hs64 := hgd.hi
      obtain ⟨A, n, c, B, m, k, hve, -, -⟩ := ho.hold
      subst hve
      have hb2 := one_new w2 (.cells #[.int .i64 G.sz, .slice A n c, .slice B m k] 29)
      have HDS : Hid (DS w D w1.heap.size w2.heap.size t G A n c B m k (w2.alloc (.cells #[.int .i64 G.sz, .slice A n c, .slice B m k] 29))) := Lib.hid
        ⟨by obtain ⟨kd, hk⟩ := hg.1; exact ⟨kd, hk.later hb2⟩, ho.later hb2, (HB.out.trans (hg.2.below (by have := HDD.out; omega) HB.out.size)).trans (hb2.mono (Nat.le_trans HB.out.size hg.2.size)), heap_alloc_new _ _, by have := HDD.out; omega, HDP.out, by have := HDP.out; have := hg.2.size; omega⟩
      clear hgd hsz hone hg ho hb2 HD HB
      go_upto_region 5 with (refine wpList_store_new rfl 29 (.tmp 6) (.tmp 19) rfl 29 _ #[.int .i64 G.sz, .slice A n c, .slice B m k] rfl rfl gr_size rfl (by simp [Value.oneCell']) ?_)
      generalize w2.alloc (.cells #[.int .i64 G.sz, .slice A n c, .slice B m k] 29) = y0 at *
      generalize w2.heap.size = g0 at *
      generalize w1.heap.size = P at *
      try dsimp only [Act.put]
      clear HDP
      obtain ⟨sz, hszn⟩ : ∃ sz : Nat, G.sz = (sz : Int) := ⟨G.sz.toNat, by omega⟩
      have HSN := Lib.hid hszn
      have hsn64 : sz ≤ 64 := by omega
      have hsn2 : 2 ≤ sz := by omega
      clear hszn hsz2 hs64
      obtain ⟨n0, hn0⟩ : ∃ n0, y0.drew.heap.size = n0 := ⟨_, rfl⟩
      refine wp_region_grow (by kernel_rfl) (BN D n0) (BN.refl D n0) (fun _ _ _ => BN.trans) [30, 31] [([], 0), ([1, 2, 3], 4), ([5, 6, 7, 8, 9, 10], 11), ([], 12), ([13, 14, 15, 16, 17, 18], 19), ([], 20), ([], 21), ([22, 23, 24, 25, 28], 26), ([], 27), ([], 29)] (by kernel_rfl) (by kernel_rfl) (by kernel_rfl) ?_
      simp only [List.map_cons, List.map_nil, pick, List.getD_cons_zero, List.getD_cons_succ]
      replace HDS := Lib.hid HDS.out.drew
      have HN : Hid (n0 ≤ y0.drew.heap.size) := Lib.hid (Nat.le_of_eq hn0.symm)
      have HGN : Hid (g0 < n0 ∧ D < g0) := Lib.hid (by rw [← hn0]; exact ⟨(Array.getElem?_eq_some_iff.1 HDS.out.box).1, HDS.out.dg⟩)
      clear hn0
      generalize y0.drew = z0 at *
      refine wpGrow_cons ?_
      refine wpQuiet_nil ?_
      go_wp2_with fail
      refine (HAW.out z0).mono ?_
      rintro e z1 ⟨rfl, hb⟩
      have HF : Hid (BN D n0 z0 z1) := Lib.hid (BN.later hb HN.out)
      replace HDS := Lib.hid (HDS.out.later hb)
      replace HN := Lib.hid (Nat.le_trans HN.out hb.size)
      clear hb
      go_wp2_with fail
      refine pieceEnd_normal ⟨HF.out, ?_⟩
      clear HF
      have hfg : ∀ x, (loadVar 29 ⟨g0, 0, none⟩).run Try.prog (fut (BN D n0) z1 x) = .ok (.agg #[.int .i64 G.sz, .slice A n c, .slice B m k]) (fut (BN D n0) z1 x) := fun x => run_loadVar_row _ g0 29 29 #[.int .i64 G.sz, .slice A n c, .slice B m k] (0, 0) _ (((fut_ok (BN.refl D n0) z1 x).keep g0 HGN.out.1 (by have := HGN.out.2; omega)).trans HDS.out.box) Try.underlying29 rfl gr_size
      have hfz : ∀ x, (fut (BN D n0) z1 x).cell? ⟨g0, 0, none⟩ = some (.int .i64 (sz : Int)) := fun x => by rw [← HSN.out]; exact (cell_of_row _ _ 0 _ _ _ (((fut_ok (BN.refl D n0) z1 x).keep g0 HGN.out.1 (by have := HGN.out.2; omega)).trans HDS.out.box)).trans rfl
      refine wpGrow_cons ?_
      repeat (first | (refine wpQuiet_load rfl 29 (.tmp 6) rfl ⟨g0, 0, none⟩ rfl (.agg #[.int .i64 G.sz, .slice A n c, .slice B m k]) (fun w' h => by obtain ⟨x, rfl⟩ := h; exact hfg x) ?_; simp only [Act.put, List.setIfInBounds_toArray, List.set_cons_succ, List.set_cons_zero]) | go_big_quiet_step (fail))
      refine wpQuiet_nil ?_
      clear hfg hfz
      go_wp2_with fail
      refine (agree12_any G _ SA sn sc S z1 HDS.out.hold HGD.out (HSS.out.later HDS.out.base) (by omega)).mono ?_
      rintro e z2 ⟨rfl, hb⟩
      have HF : Hid (BN D n0 z1 z2) := Lib.hid (BN.later hb HN.out)
      replace HDS := Lib.hid (HDS.out.later hb)
      replace HN := Lib.hid (Nat.le_trans HN.out hb.size)
      clear hb
      go_wp2_with fail
      refine pieceEnd_normal ⟨HF.out, ?_⟩
      clear HF
      have hfg : ∀ x, (loadVar 29 ⟨g0, 0, none⟩).run Try.prog (fut (BN D n0) z2 x) = .ok (.agg #[.int .i64 G.sz, .slice A n c, .slice B m k]) (fut (BN D n0) z2 x) := fun x => run_loadVar_row _ g0 29 29 #[.int .i64 G.sz, .slice A n c, .slice B m k] (0, 0) _ (((fut_ok (BN.refl D n0) z2 x).keep g0 HGN.out.1 (by have := HGN.out.2; omega)).trans HDS.out.box) Try.underlying29 rfl gr_size
      have hfz : ∀ x, (fut (BN D n0) z2 x).cell? ⟨g0, 0, none⟩ = some (.int .i64 (sz : Int)) := fun x => by rw [← HSN.out]; exact (cell_of_row _ _ 0 _ _ _ (((fut_ok (BN.refl D n0) z2 x).keep g0 HGN.out.1 (by have := HGN.out.2; omega)).trans HDS.out.box)).trans rfl
      refine wpGrow_cons ?_
      repeat (first | (refine wpQuiet_load rfl 29 (.tmp 6) rfl ⟨g0, 0, none⟩ rfl (.agg #[.int .i64 G.sz, .slice A n c, .slice B m k]) (fun w' h => by obtain ⟨x, rfl⟩ := h; exact hfg x) ?_; simp only [Act.put, List.setIfInBounds_toArray, List.set_cons_succ, List.set_cons_zero]) | go_big_quiet_step (fail))
      refine wpQuiet_nil ?_
      clear hfg hfz
      go_wp2_with fail
      refine (some_g12 w.heap.size D t sz z2 HDS.out.dice (by omega)).mono ?_
      rintro e z3 ⟨v1, S1, rfl, ho, hsl, hg⟩
      obtain ⟨A7, c7, rfl, hr⟩ := Row.of_own ho
      have HR1 : Hid (IRow z3 A7 S1.length c7 S1) := Lib.hid hr
      have HSL := Lib.hid hsl
      have HF : Hid (BN D n0 z2 z3) := Lib.hid (BN.but hg.2 HN.out)
      replace HDS := Lib.hid (HDS.out.gave hg)
      replace HN := Lib.hid (Nat.le_trans HN.out hg.2.size)
      clear hg hr ho hsl
      go_wp2_with fail
      refine pieceEnd_normal ⟨HF.out, ?_⟩
      clear HF
      refine wpGrow_cons ?_
      refine wpQuiet_nil ?_
      go_wp2_with fail
      refine (agree12_any G _ A7 S1.length c7 S1 z3 HDS.out.hold HGD.out HR1.out (by have := HSL.out; omega)).mono ?_
      rintro e z4 ⟨rfl, hb⟩
      clear HR1 HSL
      have HF : Hid (BN D n0 z3 z4) := Lib.hid (BN.later hb HN.out)
      replace HDS := Lib.hid (HDS.out.later hb)
      replace HN := Lib.hid (Nat.le_trans HN.out hb.size)
      clear hb
      go_wp2_with fail
      refine pieceEnd_normal ⟨HF.out, ?_⟩
      clear HF
      have hfg : ∀ x, (loadVar 29 ⟨g0, 0, none⟩).run Try.prog (fut (BN D n0) z4 x) = .ok (.agg #[.int .i64 G.sz, .slice A n c, .slice B m k]) (fut (BN D n0) z4 x) := fun x => run_loadVar_row _ g0 29 29 #[.int .i64 G.sz, .slice A n c, .slice B m k] (0, 0) _ (((fut_ok (BN.refl D n0) z4 x).keep g0 HGN.out.1 (by have := HGN.out.2; omega)).trans HDS.out.box) Try.underlying29 rfl gr_size
      have hfz : ∀ x, (fut (BN D n0) z4 x).cell? ⟨g0, 0, none⟩ = some (.int .i64 (sz : Int)) := fun x => by rw [← HSN.out]; exact (cell_of_row _ _ 0 _ _ _ (((fut_ok (BN.refl D n0) z4 x).keep g0 HGN.out.1 (by have := HGN.out.2; omega)).trans HDS.out.box)).trans rfl
      refine wpGrow_cons ?_
      repeat (first | (refine wpQuiet_load rfl 29 (.tmp 6) rfl ⟨g0, 0, none⟩ rfl (.agg #[.int .i64 G.sz, .slice A n c, .slice B m k]) (fun w' h => by obtain ⟨x, rfl⟩ := h; exact hfg x) ?_; simp only [Act.put, List.setIfInBounds_toArray, List.set_cons_succ, List.set_cons_zero]) | go_big_quiet_step (fail))
      refine wpQuiet_nil ?_
      clear hfg hfz
      go_wp2_with fail
      refine (next_g w.heap.size D t (sz : Int) z4 HDS.out.dice (by omega) (by omega)).mono ?_
      rintro e z5 ⟨x1, rfl, hx0, hx1, hg⟩
      have HF : Hid (BN D n0 z4 z5) := Lib.hid (BN.but hg.2 HN.out)
      replace HDS := Lib.hid (HDS.out.gave hg)
      replace HN := Lib.hid (Nat.le_trans HN.out hg.2.size)
      clear hg
      go_wp2_with fail
      refine pieceEnd_normal ⟨HF.out, ?_⟩
      clear HF
      refine wpGrow_cons ?_
      refine wpQuiet_nil ?_
      go_wp2_with fail
      have hb := one_new z5 (.cells #[.int .i64 x1] 3)
      refine pieceEnd_normal ⟨BN.later hb HN.out, ?_⟩
      have HR1 : Hid (IRow (z5.alloc (.cells #[.int .i64 x1] 3)) (some ⟨z5.heap.size, 0, none⟩) 1 1 [x1]) := Lib.hid (IBlk.row (D := [x1]) (heap_alloc_new _ _))
      replace HDS := Lib.hid (HDS.out.later hb)
      replace HN := Lib.hid (Nat.le_trans HN.out hb.size)
      clear hb
      generalize z5.alloc (.cells #[.int .i64 x1] 3) = z6 at *
      generalize z5.heap.size = p6 at *
      refine wpGrow_cons ?_
      refine wpQuiet_nil ?_
      go_wp2_with fail
      refine (agree12_any G _ (some ⟨p6, 0, none⟩) 1 1 [x1] z6 HDS.out.hold HGD.out HR1.out (by decide)).mono ?_
      rintro e z7 ⟨rfl, hb⟩
      clear HR1
      have HF : Hid (BN D n0 z6 z7) := Lib.hid (BN.later hb HN.out)
      replace HDS := Lib.hid (HDS.out.later hb)
      replace HN := Lib.hid (Nat.le_trans HN.out hb.size)
      clear hb
      go_wp2_with fail
      refine pieceEnd_normal ⟨HF.out, ?_⟩
      clear HF
      refine wpGrow_cons ?_
      repeat (go_big_quiet_step (fail))
      refine wpQuiet_nil ?_
      go_wp2_with fail
      refine (mod_any (sn : Int) 65 z7 (by decide) (by decide)).mono ?_
      rintro e z8 ⟨rfl, rfl⟩
      have HMB := Lib.hid (modF_bd65 (sn : Int))
      generalize modF (sn : Int) 65 = md at *
      go_wp2_with fail
      refine pieceEnd_normal ⟨BN.refl _ _ _, ?_⟩
      refine wpGrow_cons ?_
      refine wpQuiet_nil ?_
      go_wp2_with fail
      refine pieceEnd_normal ⟨BN.refl _ _ _, ?_⟩
      refine wpGrow_cons ?_
      refine wpQuiet_nil ?_
      go_wp2_with fail
      refine (agree12_any ⟨md, [], []⟩ _ SA sn sc S z7 (GHold.bare12 z7 md) (good_bare HMB.out.1 HMB.out.2) (HSS.out.later HDS.out.base) (by omega)).mono ?_
      rintro e z9 ⟨rfl, hb⟩
      have HF : Hid (BN D n0 z7 z9) := Lib.hid (BN.later hb HN.out)
      replace HDS := Lib.hid (HDS.out.later hb)
      replace HN := Lib.hid (Nat.le_trans HN.out hb.size)
      clear hb
      go_wp2_with fail
      refine pieceEnd_normal ⟨HF.out, ?_⟩
      clear HF
      refine wpGrow_nil ?_
      repeat (go_big_quiet_step (fail))
      refine wpQuiet_nil ?_
      go_wp2_with fail
      go_ret
      exact ⟨rfl, HDS.out.base⟩
    · have gs : decide ((sn : Int) > 70) = true := decide_eq_true (by omega)
      have gs' : decide ((70 : Int) < (sn : Int)) = true := gs
      have gs2 : decide (70 < sn) = true := decide_eq_true (by omega)
      go_wp2_with fail
      clear gs gs' gs2
      clear gd
      refine (HAW.out w).mono ?_
      rintro e w1 ⟨rfl, hb⟩
      have HB := Lib.hid hb; clear hb
      go_wp2_with fail
      go_ret
      exact ⟨rfl, HB.out⟩
  · have gd : decide (tn ≤ 400) = false := decide_eq_false hn
    go_wp2_with fail
    clear gd
    refine (HAW.out w).mono ?_
    rintro e w1 ⟨rfl, hb⟩
    have HB := Lib.hid hb; clear hb
    go_wp2_with fail
    go_ret
    exact ⟨rfl, HB.out⟩
end Go.Proofs.Ytikmffdmgnjpbaa
/- What a law's arguments are as rows of cells; what is asked of them behind the call. Plain facts over any program. -/
namespace Go.Proofs.Ytikmffdmgnjpbaa
open Go.ChangeShapes Go.WideShapes Go.ChangeAt Go.RowKit
section
variable {H : Type} {enc : TypeId × Value → H} {P : Program} {W W' : World}
/-- A slice of numbers of one kind that came in. -/
theorem open_nums {t e : TypeId} {k : IntKind} (ht : P.underlying t = some (.slice e)) (he : P.underlying e = some (.int k)) (hc : P.cellsOf e = 1) {base : Nat} {v : Value} {d : DataW H} {p : List MemPlace}
    (hval : Value.okWide P W .any base t v) (h : DataW.Trod enc P W 0 (fun _ => true) true t v d p) :
    ∃ (A : Option Addr) (n c : Nat) (zs : List Int), v = .slice A n c ∧ zs.length = n ∧ Row W A n c 1 (zs.map (Value.int k)) ∧ c ≤ maxLen ∧ ∀ z ∈ zs, (Lit.int k z).wf = true := by
  obtain ⟨a1, len, cap, rfl⟩ := okWide_slice ht hval
  obtain ⟨fuel, hf⟩ := h
  rcases open_ints ht he hc hf with ⟨hcs, hx⟩ | ⟨a, len', cap', zs, hcs, _, hl, hm, hz, hx, hcell, hwz⟩
  · simp [Value.cells] at hcs
    obtain ⟨rfl, rfl, rfl⟩ := hcs
    exact ⟨none, 0, 0, [], rfl, rfl, Row.nilRow _ _, Nat.zero_le _, fun _ h => by cases h⟩
  · simp [Value.cells] at hcs
    obtain ⟨rfl, rfl, rfl⟩ := hcs
    simp only [if_true] at hz
    refine ⟨some a, len, cap, zs.take len, rfl, by rw [List.length_take]; omega, ⟨by simp; omega, hl, fun e => (by cases e), fun ad e h0 => ?_⟩, hm, fun z hz' => hwz z (List.mem_of_mem_take hz')⟩
    injection e with e; subst e
    obtain ⟨ab, ao, spot⟩ := a
    have hspot : spot = none := by simpa [Addr.add] using World.cell?_spot (hcell 0 (by omega))
    subst hspot
    refine ⟨ab, ao, rfl, fun i hi => ?_⟩
    rw [Nat.mul_one] at hi
    have := hcell i (by omega)
    rw [Addr.add_lit] at this
    rw [this, List.getElem?_map, List.getElem?_take, if_pos hi, List.getElem?_eq_getElem (by omega)]
    simp [show i < zs.length by omega]
theorem open_i64s {t e : TypeId} (ht : P.underlying t = some (.slice e)) (he : P.underlying e = some (.int .i64)) (hc : P.cellsOf e = 1) {base : Nat} {v : Value} {d : DataW H} {p : List MemPlace}
    (hval : Value.okWide P W .any base t v) (h : DataW.Trod enc P W 0 (fun _ => true) true t v d p) : ∃ (A : Option Addr) (n c : Nat) (l : List Int), v = .slice A n c ∧ Row W A n c 1 (intsV l) ∧ c ≤ maxLen ∧ ∀ z ∈ l, -9223372036854775808 ≤ z ∧ z ≤ 9223372036854775807 := by
  obtain ⟨A, n, c, zs, rfl, _, hr, hm, hw⟩ := open_nums ht he hc hval h
  exact ⟨A, n, c, zs, rfl, hr, hm, fun z hz => bounds_i64 (hw z hz)⟩
theorem trodAll_below (hl : laidOutB P = true) (hb : Below W.heap.size W W') : ∀ {ts : List TypeId} {vs : List Value} {ds : List (DataW H)} {ps : List MemPlace}, (ts.all fun t => P.readableRec t && decide (t < P.types.size)) = true →
    DataW.TrodAll enc P W 0 (fun _ => true) true ts vs ds ps → DataW.TrodAll enc P W' 0 (fun b => decide (b < W.heap.size)) true ts vs ds ps
  | [], [], [], _, _, h => h
  | t :: ts, v :: vs, d :: ds, ps, hB, h => by
    have hlt := DataW.TrodAll.lt h
    obtain ⟨a, b, h1, h2, e⟩ := h
    simp only [List.all_cons, Bool.and_eq_true, decide_eq_true_eq] at hB
    subst e
    exact ⟨a, b, Below.trod hl hB.1.1 hB.1.2 h1 hb (fun x hx => hlt x (List.mem_append_left _ hx)), trodAll_below hl hb (by simpa using hB.2) h2, rfl⟩
/-- Behind a law that answered true and left below the old heap all as it was. -/
theorem law_post {f : Func} {s : ChangeSpec} {tb : TypeId} (hl : laidOutB P = true) (hres : f.resultTypes = #[tb]) (htb : P.underlying tb = some .bool) (hts : (f.params.toList.all fun t => P.readableRec t && decide (t < P.types.size)) = true) (hv : s.vars = [])
    {args : Array Value} {ds gs : List (DataW H)} {before : List MemPlace} (hW : DataW.Whole enc P f.params.toList s.vars false W args.toList ds gs before) (hfn : s.fn H (ds ++ gs) = { results := [.lit (.bool true)], args := ds }) (hb : Below W.heap.size W W') :
    ∃ v, Ending.returned (.bool true) = Ending.returned v ∧ s.post enc P f false true false false W args v W' := by
  have hW' := hW
  obtain ⟨p, q, hA, hV, rfl, _, _⟩ := hW
  refine ⟨_, rfl, ds, gs, _, [], p, [], hW', ?_, ?_, ?_, hb.frame _, fun h => by cases h⟩
  · rw [hfn, hres]; exact trodAll_mk1 (shut_bool htb _)
  · rw [hfn]; exact trodAll_below hl hb hts hA
  · rw [hfn, hv]; exact rfl
end
end Go.Proofs.Ytikmffdmgnjpbaa
/-
  PROVED: for every input the law DistanceAll returns true and leaves its arguments as they were. Conditions: none but the row's own.
-/
namespace Go.Proofs.Ytikmffdmgnjpbaa.distanceAll
open Go.ChangeShapes Go.WideShapes Go.ChangeAt Go.RowKit
theorem own : ownKnob Try.prog.godebug = none := by kernel_rfl
theorem laidOut : laidOutB Try.prog = true := by kernel_rfl
theorem cellsI : Try.prog.cellsOf 3 = 1 := by kernel_rfl
set_option maxRecDepth 100000 in
theorem lifted (os : Os) (started : os.Started) (H : Type) (enc : TypeId × Value → H) :
    ReturnsInHanded {} Try.checked os 3 .any (Rows.distanceAllSpec.pre6 enc Try.prog Try.f3 Rows.distanceAllRow.domain false) (Rows.distanceAllSpec.post enc Try.prog Try.f3 false true false false) := by
  refine returnsInHanded_of_change (C := Try.checked) own started (by kernel_rfl) Try.func3
    (ChangeSpec.witness6 (enc := enc) (C := Try.checked) false ⟨#[], #[.slice none 0 0, .slice none 0 0], []⟩ 8 (by kernel_rfl) (by kernel_rfl) (by kernel_rfl) (by kernel_rfl)) ?_
  intro W base args ds gs before hval hW _ _
  have hW' := hW
  obtain ⟨p, q, hA, hV, rfl, _, _⟩ := hW
  rw [Try.params3] at hA hval
  obtain ⟨v0, v1, d0, d1, p0, p1, rfl, rfl, rfl, h0, h1⟩ := trodAll_two hA
  obtain ⟨rfl, rfl⟩ := trodVars_none hV
  obtain ⟨A0, n0, c0, l0, rfl, hr0, _, _⟩ := open_i64s Try.underlying22 Try.underlying3 cellsI (hval 0 22 v0 rfl rfl) h0
  obtain ⟨A1, n1, c1, l1, rfl, hr1, _, _⟩ := open_i64s Try.underlying22 Try.underlying3 cellsI (hval 1 22 v1 rfl rfl) h1
  refine (dall_any A0 n0 c0 l0 A1 n1 c1 l1 W hr0 hr1).mono fun e W' ⟨he, hb⟩ => ?_
  subst he
  exact law_post laidOut (by kernel_rfl) Try.underlying4 (by kernel_rfl) rfl hW' rfl hb
theorem over : Rows.DistanceAllSaid :=
  OpenClaim.holds_of_wide 3 Try.f3 rfl rfl rfl rfl rfl rfl rfl ⟨rfl, rfl, rfl, rfl, rfl⟩ rfl rfl rfl rfl rfl (by kernel_rfl) Try.func3 (by kernel_rfl)
    (of_decide_eq_true (by kernel_rfl)) (by unfold Func.isWrapper; first | (rw [if_pos (by decide +kernel)]; kernel_rfl) | (rw [if_neg (by decide +kernel)]; exact ⟨rfl, rfl⟩))
    (fun os started H enc _ => lifted os started H enc)
end Go.Proofs.Ytikmffdmgnjpbaa.distanceAll
