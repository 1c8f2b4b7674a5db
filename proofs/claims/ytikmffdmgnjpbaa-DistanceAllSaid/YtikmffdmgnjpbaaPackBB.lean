import Derived.Test.YtikmffdmgnjpbaaDlWaysP
import Derived.Test.YtikmffdmgnjpbaaPackAZ
import Derived.Test.YtikmffdmgnjpbaaPackAP
import Derived.Deep.CutBlock
import Derived.Deep.DeepCutAuto
/-
  PROVED: for every input the law DistanceWays returns true and leaves its argument as it was. Conditions: none but the row's own.
-/
namespace Go.Proofs.Ytikmffdmgnjpbaa.distanceWays
open Go.ChangeShapes Go.WideShapes Go.ChangeAt Go.RowKit
theorem own : ownKnob Try.prog.godebug = none := by kernel_rfl
theorem laidOut : laidOutB Try.prog = true := by kernel_rfl
theorem cellsI : Try.prog.cellsOf 3 = 1 := by kernel_rfl
set_option maxRecDepth 100000 in
theorem lifted (os : Os) (started : os.Started) (H : Type) (enc : TypeId × Value → H) :
    ReturnsInHanded {} Try.checked os 4 .any (Rows.distanceWaysSpec.pre6 enc Try.prog Try.f4 Rows.distanceWaysRow.domain false) (Rows.distanceWaysSpec.post enc Try.prog Try.f4 false true false false) := by
  refine returnsInHanded_of_change (C := Try.checked) own started (by kernel_rfl) Try.func4
    (ChangeSpec.witness6 (enc := enc) (C := Try.checked) false ⟨#[], #[.slice none 0 0], []⟩ 8 (by kernel_rfl) (by kernel_rfl) (by kernel_rfl) (by kernel_rfl)) ?_
  intro W base args ds gs before hval hW _ _
  have hW' := hW
  obtain ⟨p, q, hA, hV, rfl, _, _⟩ := hW
  rw [Try.params4] at hA hval
  obtain ⟨v0, d0, rfl, rfl, h0⟩ := trodAll_one hA
  obtain ⟨rfl, rfl⟩ := trodVars_none hV
  obtain ⟨A0, n0, c0, l0, rfl, hr0, _, _⟩ := open_i64s Try.underlying22 Try.underlying3 cellsI (hval 0 22 v0 rfl rfl) h0
  refine (dways_any A0 n0 c0 l0 W hr0).mono fun e W' ⟨he, hb⟩ => ?_
  subst he
  exact law_post laidOut (by kernel_rfl) Try.underlying4 (by kernel_rfl) rfl hW' rfl hb
theorem over : Rows.DistanceWaysSaid :=
  OpenClaim.holds_of_wide 4 Try.f4 rfl rfl rfl rfl rfl rfl rfl ⟨rfl, rfl, rfl, rfl, rfl⟩ rfl rfl rfl rfl rfl (by kernel_rfl) Try.func4 (by kernel_rfl)
    (of_decide_eq_true (by kernel_rfl)) (by unfold Func.isWrapper; first | (rw [if_pos (by decide +kernel)]; kernel_rfl) | (rw [if_neg (by decide +kernel)]; exact ⟨rfl, rfl⟩))
    (fun os started H enc _ => lifted os started H enc)
end Go.Proofs.Ytikmffdmgnjpbaa.distanceWays
/- The walk of the law DistanceOrder. -/
namespace Go.Proofs.Ytikmffdmgnjpbaa
open Go.RowKit
/-- .. and the order of the keys. -/
structure LO (w : World) (D P g0 : Nat) (t : List Int) (G : Gr) (A : Option Addr) (n c : Nat) (B : Option Addr) (m k : Nat) (AS : Option Addr) (ns cs : Nat) (S : List Int) (Al : Option Addr) (nl cl : Nat) (AD : List Int) (Ao : Option Addr) (no co : Nat) (L : List Int) (z : World) : Prop where
  ds : DS w D P g0 t G A n c B m k z
  sd : IRow z AS ns cs S
  dl : IRow z Al nl cl AD
  ol : IRow z Ao no co L
theorem LO.later {w : World} {D P g0 : Nat} {t : List Int} {G : Gr} {A : Option Addr} {n c : Nat} {B : Option Addr} {m k : Nat} {AS : Option Addr} {ns cs : Nat} {S : List Int} {Al : Option Addr} {nl cl : Nat} {AD : List Int} {Ao : Option Addr} {no co : Nat} {L : List Int} {z z' : World} (h : LO w D P g0 t G A n c B m k AS ns cs S Al nl cl AD Ao no co L z) (hb : Below z.heap.size z z') : LO w D P g0 t G A n c B m k AS ns cs S Al nl cl AD Ao no co L z' :=
  ⟨h.ds.later hb, h.sd.later hb, h.dl.later hb, h.ol.later hb⟩
/-- Whether a key is a seed or has one ahead of it that vouches for it and is nearer by one. -/
def stepF (d : List Int) (es : List Edg) (L : List Int) (x : Int) (q : Nat) : Bool := decide (dAt d (L.getD q 0) = dAt d x - 1) && hasI (outS es (L.getD q 0)) x
def fromF (d : List Int) (es : List Edg) (L : List Int) (x : Int) : Nat → Bool
  | 0 => decide (dAt d x = 0)
  | q + 1 => fromF d es L x q || stepF d es L x q
theorem fromF_up {d : List Int} {es : List Edg} {L : List Int} {x : Int} : ∀ {i q : Nat}, q ≤ i → fromF d es L x q = true → fromF d es L x i = true
  | 0, q, h, hq => by rw [show q = 0 by omega] at hq; exact hq
  | i + 1, q, h, hq => by
    rcases Nat.eq_or_lt_of_le h with e | e
    · rw [← e]; exact hq
    · unfold fromF
      rw [fromF_up (by omega : q ≤ i) hq]
      rfl
/-- What the order is. -/
theorem order_facts {G : Gr} (hgd : Good11 G) (S : List Int) {i : Nat} (hi : i < (orderD (allD G S) G.sz.toNat).length) :
    0 ≤ (orderD (allD G S) G.sz.toNat).getD i 0 ∧ (orderD (allD G S) G.sz.toNat).getD i 0 < G.sz ∧ 0 ≤ dAt (allD G S) ((orderD (allD G S) G.sz.toNat).getD i 0) ∧ dAt (allD G S) ((orderD (allD G S) G.sz.toNat).getD i 0) < 64 ∧
      (dAt (allD G S) ((orderD (allD G S) G.sz.toNat).getD i 0) = 0 → hasI S ((orderD (allD G S) G.sz.toNat).getD i 0) = true) ∧ fromF (allD G S) G.es (orderD (allD G S) G.sz.toNat) ((orderD (allD G S) G.sz.toNat).getD i 0) i = true := by
  have hlo := hgd.lo
  have hhi := hgd.hi
  have hm : (orderD (allD G S) G.sz.toNat).getD i 0 ∈ orderD (allD G S) G.sz.toNat := by
    rw [List.getD_eq_getElem?_getD, List.getElem?_eq_getElem hi]
    exact List.getElem_mem hi
  obtain ⟨h0, h1, h2, h3⟩ := orderD_mem.1 hm
  have hd := allD_dist hgd S
  refine ⟨h0, by omega, h2, by omega, fun hz => ?_, ?_⟩
  · have h4 := (hd.zero _ h0 h1).1 hz
    unfold seedB at h4
    rw [Bool.and_eq_true] at h4
    exact h4.1
  · by_cases hz : dAt (allD G S) ((orderD (allD G S) G.sz.toNat).getD i 0) = 0
    · exact fromF_up (Nat.zero_le i) (by unfold fromF; exact decide_eq_true hz)
    · obtain ⟨j, hj, h5, h6⟩ := order_from hgd hi hz
      refine fromF_up (Nat.succ_le_of_lt hj) ?_
      unfold fromF stepF
      rw [decide_eq_true h5, h6, Bool.and_self, Bool.or_true]
set_option maxRecDepth 100000 in
set_option maxHeartbeats 40000000 in
theorem dorder_any (TA : Option Addr) (tn tc : Nat) (t : List Int) (w : World) (ht : IRow w TA tn tc t) : Calls Try.prog 6 #[.slice TA tn tc] w (SaysL (.bool true) w) := by
  have HAW : Hid (∀ y, Calls Try.prog 8 #[] y (SaysL (.bool true) y)) := Lib.hid fun y => awake12_any y
  have HT := Lib.hid ht; clear ht
  go_enter Try.func6, Try.ntmps6
  go_wp2_with fail
  refine (light_any TA tn tc w).mono ?_
  rintro e w0 ⟨rfl, rfl⟩
  by_cases hn : tn ≤ 400
  · have gd0 : decide (tn ≤ 400) = true := decide_eq_true hn
    go_wp2_with fail
    clear gd0
    refine (roll_any w.heap.size TA tn tc t w HT.out (by omega) (Nat.le_refl _) (fun ad e h0 => Row.lt HT.out (by decide) ad e h0)).mono ?_
    rintro e w1 ⟨rfl, hd, hb⟩
    obtain ⟨D, hD⟩ : ∃ D, D = w.heap.size := ⟨_, rfl⟩
    have HD : Hid (∃ kd, DiceAt w1 w.heap.size D t kd) := Lib.hid ⟨0, by rw [hD]; exact hd⟩
    have HB := Lib.hid hb
    have HDD : Hid (w.heap.size = D) := Lib.hid hD.symm
    rw [← hD]
    clear hd hb hD HT
    go_wp2_with fail
    refine (ggraph_g w.heap.size D t w1 HD.out).mono ?_
    rintro e w2 ⟨v0, G, rfl, ho, hgd, hsz, hone, hg⟩
    have HDP : Hid (D < w1.heap.size) := Lib.hid (by obtain ⟨kd, hk⟩ := HD.out; exact hk.lt)
    have HGD := Lib.hid hgd; have hsz2 := hsz; have hs64 := hgd.hi
    obtain ⟨A, n, c, B, m, k, hve, -, -⟩ := ho.hold
    subst hve
    have hb2 := one_new w2 (.cells #[.int .i64 G.sz, .slice A n c, .slice B m k] 29)
    have HDS : Hid (DS w D w1.heap.size w2.heap.size t G A n c B m k (w2.alloc (.cells #[.int .i64 G.sz, .slice A n c, .slice B m k] 29))) := Lib.hid
      ⟨by obtain ⟨kd, hk⟩ := hg.1; exact ⟨kd, hk.later hb2⟩, ho.later hb2, (HB.out.trans (hg.2.below (by have := HDD.out; omega) HB.out.size)).trans (hb2.mono (Nat.le_trans HB.out.size hg.2.size)), heap_alloc_new _ _, by have := HDD.out; omega, HDP.out, by have := HDP.out; have := hg.2.size; omega⟩
    clear hgd hsz hone hg ho hb2 HD HB
    go_upto_region 5 with (refine wpList_store_new rfl 29 (.tmp 4) (.tmp 18) rfl 29 _ #[.int .i64 G.sz, .slice A n c, .slice B m k] rfl rfl gr_size rfl (by simp [Value.oneCell']) ?_)
    generalize w2.alloc (.cells #[.int .i64 G.sz, .slice A n c, .slice B m k] 29) = y0 at *
    generalize w2.heap.size = g0 at *
    generalize w1.heap.size = P at *
    try dsimp only [Act.put]
    clear HDP
    obtain ⟨sz, hszn⟩ : ∃ sz : Nat, G.sz = (sz : Int) := ⟨G.sz.toNat, by omega⟩
    have HSN := Lib.hid hszn
    have hsn64 : sz ≤ 64 := by omega
    have hsn2 : 2 ≤ sz := by omega
    clear hszn hsz2 hs64
    have hz0 : y0.cell? ⟨g0, 0, none⟩ = some (.int .i64 (sz : Int)) := by rw [← HSN.out]; exact (cell_of_row _ _ 0 _ _ _ HDS.out.box).trans rfl
    go_wp2_with fail
    clear hz0
    refine (some_g12 w.heap.size D t sz y0 HDS.out.dice (by omega)).mono ?_
    rintro e y1 ⟨v1, S, rfl, ho, hsl, hg⟩
    obtain ⟨AS, cs, rfl, hr⟩ := Row.of_own ho
    have HR1 : Hid (IRow y1 AS S.length cs S) := Lib.hid hr
    replace HDS := Lib.hid (HDS.out.gave hg)
    have hsl64 : S.length ≤ 64 := by omega
    clear hg hr ho hsl
    go_upto_region 6 with fail
    refine wp_region_grow (by kernel_rfl) Later Later.refl (fun _ _ _ => Later.trans) [6, 7] [([0, 1, 3, 4], 2), ([], 5)] (by kernel_rfl) (by kernel_rfl) (by kernel_rfl) ?_
    simp only [List.map_cons, List.map_nil, pick, List.getD_cons_zero, List.getD_cons_succ]
    replace HDS := Lib.hid HDS.out.drew
    replace HR1 := Lib.hid (HR1.out.later (Later.drew y1))
    generalize y1.drew = z0 at *
    have hfg : ∀ x, (loadVar 29 ⟨g0, 0, none⟩).run Try.prog (fut Later z0 x) = .ok (.agg #[.int .i64 G.sz, .slice A n c, .slice B m k]) (fut Later z0 x) := fun x => run_loadVar_row _ g0 29 29 #[.int .i64 G.sz, .slice A n c, .slice B m k] (0, 0) _ (((fut_ok Later.refl z0 x).block g0 (Array.getElem?_eq_some_iff.1 HDS.out.box).1).trans HDS.out.box) Try.underlying29 rfl gr_size
    refine wpGrow_cons ?_
    repeat (first | (refine wpQuiet_load rfl 29 (.tmp 4) rfl ⟨g0, 0, none⟩ rfl (.agg #[.int .i64 G.sz, .slice A n c, .slice B m k]) (fun w' h => by obtain ⟨x, rfl⟩ := h; exact hfg x) ?_; simp only [Act.put, List.setIfInBounds_toArray, List.set_cons_succ, List.set_cons_zero]) | go_big_quiet_step (fail))
    refine wpQuiet_nil ?_
    clear hfg
    have HC := Lib.hid (order_any12 G _ AS S.length cs S z0 HDS.out.hold HGD.out HR1.out (by omega))
    go_wp2_with fail
    refine HC.out.mono ?_
    rintro e z1 ⟨Ao, no, co, rfl, hr, hb⟩
    have HF := Lib.hid hb
    have HRO := Lib.hid hr
    replace HDS := Lib.hid (HDS.out.later hb)
    replace HR1 := Lib.hid (HR1.out.later hb)
    clear hr hb HC
    go_wp2_with fail
    refine pieceEnd_normal ⟨HF.out, ?_⟩
    clear HF
    refine wpGrow_cons ?_
    refine wpQuiet_nil ?_
    have HC := Lib.hid (all_any G _ AS S.length cs S z1 HDS.out.hold HGD.out HR1.out (by omega))
    go_wp2_with fail
    refine HC.out.mono ?_
    rintro e z2 ⟨gd, rfl, hd, -, hb⟩
    have HF := Lib.hid hb
    have HAD := Lib.hid (allD_dist HGD.out S)
    have HOF : Hid (∀ i, i < (orderD (allD G S) G.sz.toNat).length → _) := Lib.hid fun i hi => order_facts HGD.out S hi
    have HOL : Hid (∀ i j, i < j → j < (orderD (allD G S) G.sz.toNat).length → _) := Lib.hid fun i j hij hj => orderD_at (d := allD G S) (z := G.sz.toNat) hij hj
    have HNO := Lib.hid HRO.out.len
    have hno : no ≤ 64 := by have := orderD_len (d := allD G S) (z := G.sz.toNat); have := HNO.out; have := HSN.out; omega
    have hsz : G.sz.toNat = sz := by have := HSN.out; omega
    have HL0 := Lib.hid hd
    replace HDS := Lib.hid (HDS.out.later hb)
    replace HR1 := Lib.hid (HR1.out.later hb)
    replace HRO := Lib.hid (HRO.out.later hb)
    rw [hsz] at HAD HRO HOF HOL HNO ⊢
    rw [HSN.out] at HOF
    clear hsz
    have HDL : Hid ((allD G S).length = sz) := Lib.hid HAD.out.len
    generalize allD G S = AD at *
    generalize orderD AD sz = L at *
    have HL : Hid (LO w D P g0 t G A n c B m k AS S.length cs S (some ⟨gd, 0, none⟩) sz sz AD Ao no co L z2) := Lib.hid ⟨HDS.out, HR1.out, HL0.out.row' HDL.out, HRO.out⟩
    clear hd hb HC HDS HR1 HRO HL0
    go_wp2_with fail
    refine pieceEnd_normal ⟨HF.out, ?_⟩
    clear HF
    refine wpGrow_nil ?_
    repeat (go_big_quiet_step (fail))
    refine wpQuiet_nil ?_
    have hz0 : z2.cell? ⟨g0, 0, none⟩ = some (.int .i64 (sz : Int)) := by rw [← HSN.out]; exact (cell_of_row _ _ 0 _ _ _ HL.out.ds.box).trans rfl
    go_wp2_with fail
    clear hz0
    go_loopw [8] (fun i wr => ∃ j : Nat, j ≤ no ∧ i = .int .i64 j ∧ Hid (LO w D P g0 t G A n c B m k AS S.length cs S (some ⟨gd, 0, none⟩) sz sz AD Ao no co L wr)) (fun i _ => no - (intOf i).toNat)
    case atStart => exact ⟨0, Nat.zero_le _, rfl, HL⟩
    case round =>
      clear HL
      obtain ⟨j, hj, rfl, HL⟩ := hrel
      by_cases hlt : j < no
      · have hlt2 : (j : Int) < (no : Int) := by omega
        obtain ⟨bo, oo, hAo, -⟩ := IRow.cell HL.out.ol j hlt
        subst hAo
        obtain ⟨hx0, hx1, hxd0, hxd64, hxs, hxf⟩ := HOF.out j (by rw [HNO.out]; exact hlt)
        have HOLj : Hid (∀ p, j = p + 1 → ltD AD (L.getD p 0) (L.getD j 0)) := Lib.hid fun p hp => HOL.out p j (by omega) (by rw [HNO.out]; exact hlt)
        have HPB : Hid (∀ p, j = p + 1 → 0 ≤ L.getD p 0 ∧ L.getD p 0 < (sz : Int)) := Lib.hid fun p hp => by
          have h := HOF.out p (by rw [HNO.out]; omega)
          exact ⟨h.1, h.2.1⟩
        have HXS := Lib.hid hxs
        have HXF := Lib.hid hxf
        go_upto_region 12 with fail
        go_cut [105] (fun v105 wx => v105 = .bool false ∧ Hid (LO w D P g0 t G A n c B m k AS S.length cs S (some ⟨gd, 0, none⟩) sz sz AD (some ⟨bo, oo, none⟩) no co L wx))
        case first =>
          obtain ⟨nx, hnx⟩ : ∃ nx : Nat, L.getD j 0 = (nx : Int) := ⟨(L.getD j 0).toNat, by omega⟩
          have hxz : nx < sz := by omega
          refine wp_region_grow (by kernel_rfl) Later Later.refl (fun _ _ _ => Later.trans) [0, 1, 2, 3, 4, 5, 6, 7, 8, 9, 10, 11, 12, 13, 14, 15, 16, 17, 18, 19, 20, 21, 22, 23, 24, 25, 26, 27, 28, 29, 30, 31, 32, 33, 34, 35, 36, 37, 38, 39, 40, 41, 42, 43, 44, 45, 46, 47, 48, 49, 50, 51, 52, 53, 54, 55, 56, 57, 58, 59, 60, 61, 62, 63, 64, 65] [] (by kernel_rfl) (by kernel_rfl) (by kernel_rfl) ?_
          simp only [List.append_eq, List.cons_append, List.nil_append, List.map_cons, List.map_nil, pick, List.getD_cons_zero, List.getD_cons_succ]
          replace HL := Lib.hid (HL.out.later (Below.refl _ _).drew)
          generalize wr.drew = z3 at *
          have hfx := irow_fut HL.out.ol j hlt
          rw [hnx] at hfx
          have hfz : ∀ x, (fut Later z3 x).cell? ⟨g0, 0, none⟩ = some (.int .i64 (sz : Int)) := fun x => by rw [← HSN.out]; exact (cell_of_row _ _ 0 _ _ _ (((fut_ok Later.refl z3 x).block g0 (Array.getElem?_eq_some_iff.1 HL.out.ds.box).1).trans HL.out.ds.box)).trans rfl
          have d0 : decide ((nx : Int) < 0) = false := decide_eq_false (by omega)
          have d1 : decide ((nx : Int) ≥ (sz : Int)) = false := decide_eq_false (by omega)
          have d1' : decide ((sz : Int) ≤ (nx : Int)) = false := d1
          have d1n : decide (sz ≤ nx) = false := decide_eq_false (by omega)
          rcases Nat.eq_zero_or_pos j with h0 | h0
          · have e0 : decide ((j : Int) > 0) = false := decide_eq_false (by omega)
            have e0' : decide ((0 : Int) < (j : Int)) = false := e0
            have e0n : decide (0 < j) = false := decide_eq_false (by omega)
            clear h0
            refine wpGrow_nil ?_
            repeat (go_big_quiet_step (fail))
            refine wpQuiet_nil ?_
            clear hfx hfz
            go_wp2_with fail
            go_meet
            exact ⟨rfl, HL⟩
          · obtain ⟨p, hp⟩ : ∃ p, j = p + 1 := ⟨j - 1, by omega⟩
            have hlt3 := HOLj.out p hp
            have hpb := HPB.out p hp
            have e0 : decide ((j : Int) > 0) = true := decide_eq_true (by omega)
            have e0' : decide ((0 : Int) < (j : Int)) = true := e0
            have e0n : decide (0 < j) = true := decide_eq_true h0
            have e1 : (0 : Int) ≤ (j : Int) - 1 := by omega
            have e2 : (j : Int) - 1 < (no : Int) := by omega
            have e3 : ((j : Int) - 1).toNat = p := by omega
            have hfy := irow_fut HL.out.ol p (by omega)
            obtain ⟨ny, hny⟩ : ∃ ny : Nat, L.getD p 0 = (ny : Int) := ⟨(L.getD p 0).toNat, by omega⟩
            rw [hny] at hfy hlt3 hpb
            rw [hnx] at hlt3
            have hyz : ny < sz := by omega
            have hfdx := irow_fut HL.out.dl nx hxz
            have hfdy := irow_fut HL.out.dl ny hyz
            rw [Nat.zero_add, dAt_cell (by rw [HDL.out]; exact hxz)] at hfdx
            rw [Nat.zero_add, dAt_cell (by rw [HDL.out]; exact hyz)] at hfdy
            unfold ltD at hlt3
            generalize dAt AD (nx : Int) = dx at *
            generalize dAt AD (ny : Int) = dy at *
            have hxz2 : (nx : Int) < (sz : Int) := by omega
            have hyz2 : (ny : Int) < (sz : Int) := by omega
            have c1 : decide (dy > dx) = false := decide_eq_false (by omega)
            have c1' : decide (dx < dy) = false := c1
            clear h0 hp
            by_cases hdd : dy = dx
            · have c2 : (dy == dx) = true := by rw [hdd]; simp
              have c3 : decide ((ny : Int) ≥ (nx : Int)) = false := decide_eq_false (by omega)
              have c3' : decide ((nx : Int) ≤ (ny : Int)) = false := c3
              have c3n : decide (nx ≤ ny) = false := decide_eq_false (by omega)
              clear hdd hlt3
              refine wpGrow_nil ?_
              repeat (go_big_quiet_step (fail))
              refine wpQuiet_nil ?_
              clear hfx hfz hfy hfdx hfdy
              go_wp2_with fail
              go_meet
              exact ⟨rfl, HL⟩
            · have c2 : (dy == dx) = false := by rw [beq_eq_false_iff_ne]; exact hdd
              clear hdd hlt3
              refine wpGrow_nil ?_
              repeat (go_big_quiet_step (fail))
              refine wpQuiet_nil ?_
              clear hfx hfz hfy hfdx hfdy
              go_wp2_with fail
              go_meet
              exact ⟨rfl, HL⟩
        case rest =>
          clear HL
          obtain ⟨rfl, HL⟩ := hcut
          obtain ⟨nx, hnx⟩ : ∃ nx : Nat, L.getD j 0 = (nx : Int) := ⟨(L.getD j 0).toNat, by omega⟩
          have hxz : nx < sz := by omega
          have hxz2 : (nx : Int) < (sz : Int) := by omega
          have hcx : wc.cell? ⟨bo, oo + j, none⟩ = some (.int .i64 (nx : Int)) := by
            obtain ⟨b2, o2, hA2, hc2⟩ := IRow.cell HL.out.ol j hlt
            injection hA2 with hA2
            injection hA2 with i1 i2
            subst i1 i2
            rw [hnx] at hc2
            exact hc2
          have hcd : wc.cell? ⟨gd, nx, none⟩ = some (.int .i64 (dAt AD (nx : Int))) := by
            obtain ⟨b2, o2, hA2, hc2⟩ := IRow.cell HL.out.dl nx hxz
            injection hA2 with hA2
            injection hA2 with i1 i2
            subst i1 i2
            rw [Nat.zero_add, dAt_cell (by rw [HDL.out]; exact hxz)] at hc2
            exact hc2
          rw [hnx] at HXS HXF hxd0 hxd64
          have HFS : Hid (∀ q, fromF AD G.es L (nx : Int) (q + 1) = (fromF AD G.es L (nx : Int) q || (decide (dAt AD (L.getD q 0) = dAt AD (nx : Int) - 1) && hasI (outS G.es (L.getD q 0)) (nx : Int)))) := Lib.hid fun q => rfl
          have HF0 : Hid (fromF AD G.es L (nx : Int) 0 = decide (dAt AD (nx : Int) = 0)) := Lib.hid rfl
          have HDX : Hid (0 ≤ dAt AD (nx : Int) ∧ dAt AD (nx : Int) < 64) := Lib.hid ⟨hxd0, hxd64⟩
          have HCX : Hid (dAt AD (nx : Int) = dAt AD (nx : Int)) := Lib.hid rfl
          generalize hFF : fromF AD G.es L (nx : Int) = FF at *
          clear hFF
          obtain ⟨dx, hdx⟩ : ∃ dx, dAt AD (nx : Int) = dx := ⟨_, rfl⟩
          rw [hdx] at hcd HFS HF0 HXS HDX
          have HDXE := Lib.hid hdx
          clear hx0 hx1 hxd0 hxd64 hxs hxf hdx HCX
          have HNX := Lib.hid hnx
          clear hnx
          have hb0 : (dx == 0) = decide (dx = 0) := by
            by_cases h : dx = 0
            · rw [h]; rfl
            · rw [decide_eq_false h, beq_eq_false_iff_ne]; exact h
          rw [← hb0] at HF0
          go_wp2_with fail
          clear hcx hcd
          go_loopw [9, 10] (fun f i wr => ∃ q : Nat, q ≤ j ∧ f = .bool (FF q) ∧ i = .int .i64 q ∧ Hid (LO w D P g0 t G A n c B m k AS S.length cs S (some ⟨gd, 0, none⟩) sz sz AD (some ⟨bo, oo, none⟩) no co L wr)) (fun _ i _ => j - (intOf i).toNat)
          case atStart => exact ⟨0, Nat.zero_le _, by rw [HF0.out, hb0], rfl, HL⟩
          case round =>
            clear HL
            obtain ⟨q, hq, rfl, rfl, HL⟩ := hrel
            by_cases hlq : q < j
            · have hlq2 : (q : Int) < (j : Int) := by omega
              have HFq := Lib.hid (HFS.out q)
              go_upto_region 18 with fail
              refine wp_region_grow (by kernel_rfl) Later Later.refl (fun _ _ _ => Later.trans) [30, 31, 32] [([0, 1, 2, 3, 4, 5, 6, 7, 8, 9, 10, 11, 12, 13, 14, 15, 16, 17, 18, 19, 20, 21, 22, 23, 25, 26, 27, 28], 24), ([], 29)] (by kernel_rfl) (by kernel_rfl) (by kernel_rfl) ?_
              simp only [List.map_cons, List.map_nil, pick, List.getD_cons_zero, List.getD_cons_succ]
              replace HL := Lib.hid (HL.out.later (Below.refl _ _).drew)
              generalize wr.drew = z3 at *
              generalize FF q = fq at *
              cases fq
              · rw [Bool.false_or] at HFq
                have hq0 := HOF.out q (by rw [HNO.out]; omega)
                have hfx := irow_fut HL.out.ol j hlt
                rw [HNX.out] at hfx
                have hfy := irow_fut HL.out.ol q (by omega)
                obtain ⟨ny, hny⟩ : ∃ ny : Nat, L.getD q 0 = (ny : Int) := ⟨(L.getD q 0).toNat, by have := hq0.1; omega⟩
                have hyz : ny < sz := by have := hq0.2.1; omega
                have hyz2 : (ny : Int) < (sz : Int) := by omega
                have hqn : (q : Int) < (no : Int) := by omega
                rw [hny] at hfy HFq
                have hfdx := irow_fut HL.out.dl nx hxz
                have hfdy := irow_fut HL.out.dl ny hyz
                rw [Nat.zero_add, dAt_cell (by rw [HDL.out]; exact hxz), HDXE.out] at hfdx
                rw [Nat.zero_add, dAt_cell (by rw [HDL.out]; exact hyz)] at hfdy
                clear hq0 hny
                generalize dAt AD (ny : Int) = dy at *
                have hdx0 := HDX.out.1
                have hdx1 := HDX.out.2
                have hw1 : IntKind.i64.wrap (dx - 1) = dx - 1 := by rw [IntKind.wrap_i64]; omega
                have hw2 : RowKit.wrap64 (dx - 1) = dx - 1 := IntWalk.wrap64_in _ (by omega)
                by_cases hdd : dy = dx - 1
                · have c2 : (dy == dx - 1) = true := by rw [hdd]; simp
                  rw [decide_eq_true hdd, Bool.true_and] at HFq
                  have hfg : ∀ x, (loadVar 29 ⟨g0, 0, none⟩).run Try.prog (fut Later z3 x) = .ok (.agg #[.int .i64 G.sz, .slice A n c, .slice B m k]) (fut Later z3 x) := fun x => run_loadVar_row _ g0 29 29 #[.int .i64 G.sz, .slice A n c, .slice B m k] (0, 0) _ (((fut_ok Later.refl z3 x).block g0 (Array.getElem?_eq_some_iff.1 HL.out.ds.box).1).trans HL.out.ds.box) Try.underlying29 rfl gr_size
                  have HOUT := Lib.hid (out_any11 A n c G.es G.sz B m k (ny : Int) z3 HL.out.ds.rows.1 (by rw [← ERow.len HL.out.ds.rows.1]; exact HGD.out.few.1))
                  have HOSL : Hid ((outS G.es (ny : Int)).length ≤ 100000) := Lib.hid (by
                    have h := outS_len G.es (ny : Int) G.es.length (Nat.le_refl _)
                    rw [List.take_length] at h
                    have := HGD.out.few.1
                    omega)
                  generalize outS G.es (ny : Int) = OS at *
                  clear hdd
                  refine wpGrow_cons ?_
                  repeat (first | (refine wpQuiet_load rfl 29 (.tmp 4) rfl ⟨g0, 0, none⟩ rfl (.agg #[.int .i64 G.sz, .slice A n c, .slice B m k]) (fun w' h => by obtain ⟨x, rfl⟩ := h; exact hfg x) ?_; simp only [Act.put, List.setIfInBounds_toArray, List.set_cons_succ, List.set_cons_zero]) | go_big_quiet_step (fail))
                  refine wpQuiet_nil ?_
                  clear hfg hfx hfy hfdx hfdy
                  go_wp2_with fail
                  refine HOUT.out.mono ?_
                  rintro e z4 ⟨A9, n9, c9, rfl, hr9, hb9⟩
                  have HF1 := Lib.hid hb9
                  have HHS2 := Lib.hid (has_any11 A9 n9 c9 OS (nx : Int) z4 hr9 (by rw [← hr9.len]; exact HOSL.out))
                  rw [← HFq.out] at HHS2
                  replace HL := Lib.hid (HL.out.later hb9)
                  clear hr9 hb9 HOUT
                  go_wp2_with fail
                  refine pieceEnd_normal ⟨HF1.out, ?_⟩
                  clear HF1
                  refine wpGrow_cons ?_
                  refine wpQuiet_nil ?_
                  go_wp2_with fail
                  refine HHS2.out.mono ?_
                  rintro e z5 ⟨rfl, hb9⟩
                  have HF1 := Lib.hid hb9
                  replace HL := Lib.hid (HL.out.later hb9)
                  clear hb9 HHS2
                  go_wp2_with fail
                  refine pieceEnd_normal ⟨HF1.out, ?_⟩
                  clear HF1
                  refine wpGrow_nil ?_
                  repeat (go_big_quiet_step (fail))
                  refine wpQuiet_nil ?_
                  go_wp2_with fail
                  exact ⟨⟨q + 1, hlq, by first | rw [HFq.out] | rfl, by go_num, HL⟩, by simp [intOf]; omega⟩
                · have c2 : (dy == dx - 1) = false := by rw [beq_eq_false_iff_ne]; exact hdd
                  rw [decide_eq_false hdd, Bool.false_and] at HFq
                  clear hdd
                  refine wpGrow_cons ?_
                  repeat (go_big_quiet_step (fail))
                  refine wpQuiet_nil ?_
                  clear hfx hfy hfdx hfdy
                  go_wp2_with fail
                  refine pieceEnd_normal ⟨Later.refl _, ?_⟩
                  refine wpGrow_cons ?_
                  refine wpQuiet_nil ?_
                  go_wp2_with fail
                  refine pieceEnd_normal ⟨Later.refl _, ?_⟩
                  refine wpGrow_nil ?_
                  repeat (go_big_quiet_step (fail))
                  refine wpQuiet_nil ?_
                  go_wp2_with fail
                  exact ⟨⟨q + 1, hlq, by first | rw [HFq.out] | rfl, by go_num, HL⟩, by simp [intOf]; omega⟩
              · rw [Bool.true_or] at HFq
                refine wpGrow_cons ?_
                repeat (go_big_quiet_step (fail))
                refine wpQuiet_nil ?_
                go_wp2_with fail
                refine pieceEnd_normal ⟨Later.refl _, ?_⟩
                refine wpGrow_cons ?_
                refine wpQuiet_nil ?_
                go_wp2_with fail
                refine pieceEnd_normal ⟨Later.refl _, ?_⟩
                refine wpGrow_nil ?_
                repeat (go_big_quiet_step (fail))
                refine wpQuiet_nil ?_
                go_wp2_with fail
                exact ⟨⟨q + 1, hlq, by first | rw [HFq.out] | rfl, by go_num, HL⟩, by simp [intOf]; omega⟩
            · have hlq2 : ¬ (q : Int) < (j : Int) := by omega
              have hqj : q = j := by omega
              have hft : FF q = true := by rw [hqj]; exact HXF.out
              rw [hft]
              clear hft hqj
              have hcx : wr.cell? ⟨bo, oo + j, none⟩ = some (.int .i64 (nx : Int)) := by
                obtain ⟨b2, o2, hA2, hc2⟩ := IRow.cell HL.out.ol j hlt
                injection hA2 with hA2
                injection hA2 with i1 i2
                subst i1 i2
                rw [HNX.out] at hc2
                exact hc2
              have hcd : wr.cell? ⟨gd, nx, none⟩ = some (.int .i64 dx) := by
                obtain ⟨b2, o2, hA2, hc2⟩ := IRow.cell HL.out.dl nx hxz
                injection hA2 with hA2
                injection hA2 with i1 i2
                subst i1 i2
                rw [Nat.zero_add, dAt_cell (by rw [HDL.out]; exact hxz), HDXE.out] at hc2
                exact hc2
              by_cases hd0 : dx = 0
              · have b0 : (dx == 0) = true := by rw [hd0]; rfl
                have b0' : decide (dx = 0) = true := decide_eq_true hd0
                have HHS := Lib.hid (has_any11 AS S.length cs S (nx : Int) wr HL.out.sd (by omega))
                rw [HXS.out hd0] at HHS
                clear hd0
                go_wp2_with fail
                refine HHS.out.mono ?_
                rintro e z3 ⟨rfl, hb⟩
                replace HL := Lib.hid (HL.out.later hb)
                clear hb HHS hcx hcd
                go_wp2_with fail
                exact ⟨⟨j + 1, hlt, by go_num, HL⟩, by simp [intOf]; omega⟩
              · have b0 : (dx == 0) = false := by rw [beq_eq_false_iff_ne]; exact hd0
                have b0' : decide (dx = 0) = false := decide_eq_false hd0
                clear hd0
                go_wp2_with fail
                clear hcx hcd
                exact ⟨⟨j + 1, hlt, by go_num, HL⟩, by simp [intOf]; omega⟩
      · have hlt2 : ¬ (j : Int) < (no : Int) := by omega
        go_wp2_with fail
        refine (HAW.out wr).mono ?_
        rintro e z3 ⟨rfl, hb⟩
        replace HL := Lib.hid (HL.out.later hb)
        clear hb
        go_wp2_with fail
        go_ret
        exact ⟨rfl, HL.out.ds.base⟩
  · have gd0 : decide (tn ≤ 400) = false := decide_eq_false hn
    go_wp2_with fail
    clear gd0
    refine (HAW.out w).mono ?_
    rintro e w1 ⟨rfl, hb⟩
    have HB := Lib.hid hb; clear hb
    go_wp2_with fail
    go_ret
    exact ⟨rfl, HB.out⟩
end Go.Proofs.Ytikmffdmgnjpbaa
/-
  PROVED: for every input the law DistanceOrder returns true and leaves its argument as it was. Conditions: none but the row's own.
-/
namespace Go.Proofs.Ytikmffdmgnjpbaa.distanceOrder
open Go.ChangeShapes Go.WideShapes Go.ChangeAt Go.RowKit
theorem own : ownKnob Try.prog.godebug = none := by kernel_rfl
theorem laidOut : laidOutB Try.prog = true := by kernel_rfl
theorem cellsI : Try.prog.cellsOf 3 = 1 := by kernel_rfl
set_option maxRecDepth 100000 in
theorem lifted (os : Os) (started : os.Started) (H : Type) (enc : TypeId × Value → H) :
    ReturnsInHanded {} Try.checked os 6 .any (Rows.distanceOrderSpec.pre6 enc Try.prog Try.f6 Rows.distanceOrderRow.domain false) (Rows.distanceOrderSpec.post enc Try.prog Try.f6 false true false false) := by
  refine returnsInHanded_of_change (C := Try.checked) own started (by kernel_rfl) Try.func6
    (ChangeSpec.witness6 (enc := enc) (C := Try.checked) false ⟨#[], #[.slice none 0 0], []⟩ 8 (by kernel_rfl) (by kernel_rfl) (by kernel_rfl) (by kernel_rfl)) ?_
  intro W base args ds gs before hval hW _ _
  have hW' := hW
  obtain ⟨p, q, hA, hV, rfl, _, _⟩ := hW
  rw [Try.params6] at hA hval
  obtain ⟨v0, d0, rfl, rfl, h0⟩ := trodAll_one hA
  obtain ⟨rfl, rfl⟩ := trodVars_none hV
  obtain ⟨A0, n0, c0, l0, rfl, hr0, _, _⟩ := open_i64s Try.underlying22 Try.underlying3 cellsI (hval 0 22 v0 rfl rfl) h0
  refine (dorder_any A0 n0 c0 l0 W hr0).mono fun e W' ⟨he, hb⟩ => ?_
  subst he
  exact law_post laidOut (by kernel_rfl) Try.underlying4 (by kernel_rfl) rfl hW' rfl hb
theorem over : Rows.DistanceOrderSaid :=
  OpenClaim.holds_of_wide 6 Try.f6 rfl rfl rfl rfl rfl rfl rfl ⟨rfl, rfl, rfl, rfl, rfl⟩ rfl rfl rfl rfl rfl (by kernel_rfl) Try.func6 (by kernel_rfl)
    (of_decide_eq_true (by kernel_rfl)) (by unfold Func.isWrapper; first | (rw [if_pos (by decide +kernel)]; kernel_rfl) | (rw [if_neg (by decide +kernel)]; exact ⟨rfl, rfl⟩))
    (fun os started H enc _ => lifted os started H enc)
end Go.Proofs.Ytikmffdmgnjpbaa.distanceOrder
