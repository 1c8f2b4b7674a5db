import Derived.Test.YtnmpbjgccbnomaaGreatPackAO
import Derived.Test.YtnmpbjgccbnomaaGreatPackAC
import Derived.Deep.CutBlock
import Derived.Deep.DeepCutAuto
/- The walk of the reference's Of of layer 10. -/
namespace Go.Proofs.YtnmpbjgccbnomaaGreat
open Go.RowKit
def vouOf (L : List Stm) (s : Stm) : Vou := ⟨s.author, s.a, s.b, s.number, s.time, s.c, revokedS L s⟩
/-- Where a walk back from the k-th ends. -/
def backV (f : Vou → Bool) (l : List Vou) : Nat → Nat
  | 0 => 0
  | k + 1 => if f (l.getD k noVou) then backV f l k else k + 1
theorem backV_le (f : Vou → Bool) (l : List Vou) : ∀ k, backV f l k ≤ k
  | 0 => Nat.le_refl _
  | k + 1 => by
    unfold backV
    split
    · exact Nat.le_succ_of_le (backV_le f l k)
    · exact Nat.le_refl _
theorem backV_go {f : Vou → Bool} {l : List Vou} {k : Nat} (h : f (l.getD k noVou) = true) : backV f l (k + 1) = backV f l k := by
  show (if f (l.getD k noVou) then backV f l k else k + 1) = _
  rw [if_pos h]
theorem backV_stop {f : Vou → Bool} {l : List Vou} {k : Nat} (h : f (l.getD k noVou) = false) : backV f l (k + 1) = k + 1 := by
  show (if f (l.getD k noVou) then backV f l k else k + 1) = _
  rw [if_neg (by rw [h]; decide)]
def insV (l : List Vou) (x : Vou) : List Vou := l.take (backV (lessV x) l l.length) ++ x :: l.drop (backV (lessV x) l l.length)
def vouStep (L : List Stm) (out : List Vou) (s : Stm) : List Vou := if s.kind = 1 then insV out (vouOf L s) else out
/-- The vouches of a list, in their order. -/
def vouchesS (L : List Stm) : List Vou := L.foldl (vouStep L) []
def vouchesUp (L m : List Stm) : List Vou := m.foldl (vouStep L) []
theorem vouchesUp_app (L m : List Stm) (x : Stm) : vouchesUp L (m ++ [x]) = vouStep L (vouchesUp L m) x := by
  unfold vouchesUp
  rw [List.foldl_append]
  rfl
theorem insV_len (l : List Vou) (x : Vou) : (insV l x).length = l.length + 1 := by
  have := backV_le (lessV x) l l.length
  unfold insV
  simp only [List.length_append, List.length_cons, List.length_take, List.length_drop]
  omega
theorem vfold_len (L : List Stm) : ∀ (m : List Stm) (out : List Vou), (m.foldl (vouStep L) out).length ≤ out.length + m.length
  | [], out => Nat.le_refl _
  | x :: m, out => by
    have h := vfold_len L m (vouStep L out x)
    have h2 : (vouStep L out x).length ≤ out.length + 1 := by
      unfold vouStep
      split
      · rw [insV_len]; omega
      · omega
    simp only [List.foldl_cons, List.length_cons]
    omega
theorem vouchesUp_len (L m : List Stm) : (vouchesUp L m).length ≤ m.length := by have := vfold_len L m []; simpa [vouchesUp] using this
theorem vou_info : (Tryz.prog.info? 67).map (fun i => (i.zero, i.size, i.bytes)) = some (some (.agg #[.int .i64 0, .int .i64 0, .int .i64 0, .int .i64 0, .int .i64 0, .int .i64 0, .int .i64 0]), 7, 56) := by kernel_rfl
theorem vou_size : (Tryz.prog.info? 67).map (·.size) = some 7 := by kernel_rfl
theorem fold7 (p : Vou) : Array.foldl (fun (cs : Array Value) (x : Value × Nat) => cs.setIfInBounds x.snd x.fst) #[.int .i64 0, .int .i64 0, .int .i64 0, .int .i64 0, .int .i64 0, .int .i64 0, .int .i64 0] p.arr.zipIdx 0 p.arr.size = p.arr := by kernel_rfl
theorem fold7n (p : Vou) : Array.foldl (fun (cs : Array Value) (x : Value × Nat) => cs.setIfInBounds x.snd x.fst) #[.int .i64 0, .int .i64 0, .int .i64 0, .int .i64 0, .int .i64 0, .int .i64 0, .int .i64 0] p.arr.zipIdx 0 7 = p.arr := fold7 p
theorem vcells_futs {F : World → World → Prop} {W : World} {b off : Nat} {p : Vou} (h : ∀ x j, j < p.arr.size → (fut F W x).cell? ⟨b, off + j, none⟩ = p.arr[j]?) (x : World) : (loadVar 67 ⟨b, off, none⟩).run Tryz.prog (fut F W x) = .ok (.agg p.arr) (fut F W x) :=
  run_loadVar_cells _ b off 67 p.arr _ Tryz.underlying67 rfl p.info (h x)
/-- A call that gives a list of vouches. -/
def GivesV (w : World) (l : List Vou) (e : Ending) (w' : World) : Prop := ∃ A2 n2 c2, e = .returned (.slice A2 n2 c2) ∧ VRow w' A2 n2 c2 l ∧ Below w.heap.size w w'
set_option maxRecDepth 100000 in
set_option maxHeartbeats 4000000 in
theorem vof_any (A : Option Addr) (n c : Nat) (l : List Pl) (w : World) (hl : LRow w A n c l) (hn : n ≤ 100000) : Calls Tryz.prog 54 #[.slice A n c] w (GivesV w (vouchesS (l.map (·.s)))) := by
  have HL := Lib.hid hl; have HLN := Lib.hid hl.len
  obtain ⟨GS, hgs⟩ : ∃ GS, vouchesS (l.map (·.s)) = GS := ⟨_, rfl⟩
  rw [hgs]
  have HGS : Hid (vouchesUp (l.map (·.s)) (l.map (·.s)) = GS) := Lib.hid hgs
  have HLS : Hid (∀ (y : World) (p q : Vou), Calls Tryz.prog 84 #[.agg p.arr, .agg q.arr] y (SaysL (.bool (lessV p q)) y)) := Lib.hid fun y p q => less_any10 p q y
  clear hl hgs
  go_enter Tryz.func54, Tryz.ntmps54
  go_wp2_with fail
  go_loopw [3, 4] (fun v i wr => ∃ (j : Nat) (A1 : Option Addr) (n1 c1 : Nat) (l' : List Vou), j ≤ n ∧ v = .slice A1 n1 c1 ∧ i = .int .i64 j ∧ n1 ≤ j ∧ Hid (VRow wr A1 n1 c1 l' ∧ l' = vouchesUp (l.map (·.s)) ((l.take j).map (·.s)) ∧ Below w.heap.size w wr)) (fun _ i _ => n - (intOf i).toNat)
  case atStart => exact ⟨0, none, 0, 0, [], Nat.zero_le _, rfl, rfl, Nat.le_refl _, Lib.hid ⟨GRow.nil _, rfl, Below.refl _ _⟩⟩
  case round =>
    obtain ⟨j, A1, n1, c1, l', hj, rfl, rfl, hn1, HQ⟩ := hrel
    by_cases hlt : j < n
    · have hlt2 : (j : Int) < (n : Int) := by omega
      obtain ⟨b, off, hA, hc⟩ := (HL.out.later HQ.out.2.2).cells j hlt
      subst hA
      have HC := Lib.hid hc
      have HST : Hid (vouchesUp (l.map (·.s)) ((l.take (j + 1)).map (·.s)) = vouStep (l.map (·.s)) l' (l.getD j noPl).s) := Lib.hid (by rw [take_snocP l j (by rw [HLN.out]; exact hlt), List.map_append, HQ.out.2.1]; exact vouchesUp_app _ _ _)
      clear hc
      generalize l.getD j noPl = q at *
      go_upto_region 6 with (first | (refine wpList_load_cells rfl 48 (.tmp 16) rfl b (off + j * 13) rfl q.arr _ Tryz.underlying48 rfl q.info HC.out ?_) | (refine wpList_store_new rfl 48 (.tmp 5) (.tmp 17) rfl 48 _ q.arr rfl rfl q.info rfl q.one ?_))
      have HN2 := Lib.hid (one_new wr (.cells q.arr 48))
      have HX : Hid ((wr.alloc (.cells q.arr 48)).heap[wr.heap.size]? = some (.cells q.arr 48 (0, 0))) := Lib.hid (heap_alloc_new _ _)
      have HB := Lib.hid (HQ.out.2.2.trans (HN2.out.mono HQ.out.2.2.size)); have HV : Hid (VRow (wr.alloc (.cells q.arr 48)) A1 n1 c1 l') := Lib.hid (GRow.later HQ.out.1 HN2.out)
      clear HQ HN2 HC
      generalize wr.alloc (.cells q.arr 48) = x2 at *
      generalize wr.heap.size = g at *
      have hq4 : x2.cell? ⟨g, 4, none⟩ = some (.int .i64 q.s.kind) := (cell_of_row _ _ 4 _ _ _ HX.out).trans rfl
      by_cases hk : q.s.kind = 1
      · have b0 : (q.s.kind != 1) = false := by rw [hk]; rfl
        have HST2 : Hid (vouchesUp (l.map (·.s)) ((l.take (j + 1)).map (·.s)) = insV l' (vouOf (l.map (·.s)) q.s)) := Lib.hid (by rw [HST.out, vouStep, if_pos hk])
        clear hk HST
        go_upto_region 7 with fail
        clear b0 hq4
        have HRC : Hid (∀ y, Below w.heap.size w y → Calls Tryz.prog 83 #[.slice (some ⟨b, off, none⟩) n c, .agg q.arr] y (SaysL (.int .i64 (vouOf (l.map (·.s)) q.s).rv) y)) := Lib.hid fun y h => revoked_any _ n c l q y (HL.out.later h) hn
        have HVF : Hid ((vouOf (l.map (·.s)) q.s).arr = #[.int .i64 q.s.author, .int .i64 q.s.a, .int .i64 q.s.b, .int .i64 q.s.number, .int .i64 q.s.time, .int .i64 q.s.c, .int .i64 (vouOf (l.map (·.s)) q.s).rv]) := Lib.hid rfl
        generalize vouOf (l.map (·.s)) q.s = V at *
        go_cut [6] (fun v6 wx => ∃ g6 : Nat, v6 = .pointer (some ⟨g6, 0, none⟩) ∧ Hid (Below x2.heap.size x2 wx ∧ wx.heap[g6]? = some (.cells V.arr 67 (0, 0))))
        case first =>
          obtain ⟨n0, hn0⟩ : ∃ n0, x2.drew.heap.size = n0 := ⟨_, rfl⟩
          refine wp_region_flow (by kernel_rfl) (Below n0) ?_
          have HB0 : Hid (Below w.heap.size w x2.drew) := Lib.hid HB.out.drew
          have HX0 : Hid (x2.drew.heap[g]? = some (.cells q.arr 48 (0, 0))) := Lib.hid HX.out
          have HU : Hid (Below x2.heap.size x2 x2.drew) := Lib.hid (Below.refl _ _).drew
          generalize x2.drew = z0 at *
          have hgs : g < n0 := by have := (Array.getElem?_eq_some_iff.1 HX0.out).1; omega
          have HN0 : Hid (n0 ≤ z0.heap.size) := Lib.hid (Nat.le_of_eq hn0.symm)
          have HN1 := Lib.hid hn0
          have HB0N : Hid (w.heap.size ≤ n0) := Lib.hid (by rw [← hn0]; exact HB0.out.size)
          have HZ : Hid (Below n0 z0 z0) := Lib.hid (Below.refl _ _)
          clear hn0
          have hbx := fun x j => box_futs (F := Below n0) (Below.refl n0) (W := z0) (fun _ h => h.block _ hgs) HX0.out x j
          have hf0 : ∀ y, (fut (Below n0) z0 y).cell? ⟨g, 0, none⟩ = some (.int .i64 q.s.author) := fun y => by have h := hbx y 0; rw [Nat.zero_add] at h; exact h
          have hf1 : ∀ y, (fut (Below n0) z0 y).cell? ⟨g, 1, none⟩ = some (.int .i64 q.s.number) := fun y => by have h := hbx y 1; rw [Nat.zero_add] at h; exact h
          have hf3 : ∀ y, (fut (Below n0) z0 y).cell? ⟨g, 3, none⟩ = some (.int .i64 q.s.time) := fun y => by have h := hbx y 3; rw [Nat.zero_add] at h; exact h
          have hf5 : ∀ y, (fut (Below n0) z0 y).cell? ⟨g, 5, none⟩ = some (.int .i64 q.s.a) := fun y => by have h := hbx y 5; rw [Nat.zero_add] at h; exact h
          have hf6 : ∀ y, (fut (Below n0) z0 y).cell? ⟨g, 6, none⟩ = some (.int .i64 q.s.b) := fun y => by have h := hbx y 6; rw [Nat.zero_add] at h; exact h
          have hf7 : ∀ y, (fut (Below n0) z0 y).cell? ⟨g, 7, none⟩ = some (.int .i64 q.s.c) := fun y => by have h := hbx y 7; rw [Nat.zero_add] at h; exact h
          have hgl := cells_futs (p := q) (F := Below n0) (W := z0) (b := g) (off := 0) fun x j _ => hbx x j
          clear hbx
          refine flow_reads (F := Below n0) (fun _ => Below.refl _ _) (by kernel_rfl) [0, 1, 2, 3, 4, 5, 6, 7, 8, 9, 10, 11, 12, 13] (fuel := 4) (by kernel_rfl) ?_
          simp only [List.map_cons, List.map_nil, pick, List.getD_cons_zero, List.getD_cons_succ]
          repeat (first | (refine wpQuiet_load rfl 48 (.tmp 5) rfl ⟨g, 0, none⟩ rfl (.agg q.arr) (fun w' h => by obtain ⟨x, rfl⟩ := h; exact hgl x) ?_; simp only [Act.put, List.setIfInBounds_toArray, List.set_cons_succ, List.set_cons_zero]) | go_big_quiet_step (fail))
          refine wpQuiet_nil ?_
          clear hf0 hf1 hf3 hf5 hf6 hf7 hgl
          have HU2 : Hid (x2.heap.size ≤ n0) := Lib.hid (by have h1 := HU.out.size; have h2 := HN1.out; omega)
          refine flow_two (F := Below n0) (fun _ _ _ => Below.trans) (fun _ => Below.refl _ _) 14 16 (by kernel_rfl) (by decide) (by decide) ?_ ?_ <;> simp only [pick, List.getD_cons_zero, List.getD_cons_succ]
          · go_wp2_with fail
            refine (HRC.out z0 (HB0.out.trans (HZ.out.mono HB0N.out))).mono ?_
            rintro e z1 ⟨rfl, hb⟩
            have HF : Hid (Below n0 z0 z1) := Lib.hid (hb.mono HN0.out)
            replace HZ := Lib.hid (HZ.out.trans HF.out); replace HN0 := Lib.hid (Nat.le_trans HN0.out hb.size)
            clear hb
            go_wp2_with fail
            refine pieceEnd_normal ⟨HF.out, ?_⟩
            clear HF
            refine flow_two (F := Below n0) (fun _ _ _ => Below.trans) (fun _ => Below.refl _ _) 15 16 (by kernel_rfl) (by decide) (by decide) ?_ ?_ <;> simp only [pick, List.getD_cons_zero, List.getD_cons_succ]
            · go_wp2_with fail
              refine pieceEnd_normal ⟨Below.refl _ _, ?_⟩
              refine flow_one (F := Below n0) (fun _ _ _ => Below.trans) (fun _ => Below.refl _ _) 16 (by kernel_rfl) (by decide) ?_
              simp only [pick, List.getD_cons_zero, List.getD_cons_succ]
              go_wp2_with fail
              have HF : Hid (Below n0 z1 (z1.alloc (.cells #[.int .i64 0, .int .i64 0, .int .i64 0, .int .i64 0, .int .i64 0, .int .i64 0, .int .i64 0] 67))) := Lib.hid ((one_new z1 _).mono HN0.out)
              refine pieceEnd_normal ⟨HF.out, ?_⟩
              have HG6 : Hid ((z1.alloc (.cells #[.int .i64 0, .int .i64 0, .int .i64 0, .int .i64 0, .int .i64 0, .int .i64 0, .int .i64 0] 67)).heap[z1.heap.size]? = some (.cells #[.int .i64 0, .int .i64 0, .int .i64 0, .int .i64 0, .int .i64 0, .int .i64 0, .int .i64 0] 67 (0, 0))) := Lib.hid (heap_alloc_new _ _)
              have HL6 : Hid (n0 ≤ z1.heap.size) := Lib.hid HN0.out
              replace HZ := Lib.hid (HZ.out.trans HF.out); replace HN0 := Lib.hid (Nat.le_trans HN0.out HF.out.size)
              clear HF
              generalize z1.alloc (.cells #[.int .i64 0, .int .i64 0, .int .i64 0, .int .i64 0, .int .i64 0, .int .i64 0, .int .i64 0] 67) = z2 at *
              generalize z1.heap.size = g6 at *
              refine flow_one (F := Below n0) (fun _ _ _ => Below.trans) (fun _ => Below.refl _ _) 17 (by kernel_rfl) (by decide) ?_
              simp only [pick, List.getD_cons_zero, List.getD_cons_succ]
              go_wp2_with (refine wpList_store_row rfl 67 (.tmp 6) (.tmp 36) rfl g6 V.arr rfl (by rw [HVF.out]; rfl) 67 _ HG6.out V.info rfl V.one ?_)
              have HF : Hid (Below n0 z2 (z2.setRow g6 V.arr)) := Lib.hid (below_setRow (Below.refl _ _) HL6.out _)
              refine pieceEnd_normal ⟨HF.out, ?_⟩
              refine flow_done (by kernel_rfl) ?_
              replace HZ := Lib.hid (HZ.out.trans HF.out)
              have HG7 := Lib.hid (setRow_heap z2 g6 _ V.arr _ _ HG6.out)
              clear HF HG6 HL6
              generalize z2.setRow g6 V.arr = zz at *
              go_wp2_with fail
              go_meet
              exact ⟨g6, rfl, Lib.hid ⟨HU.out.trans (HZ.out.mono HU2.out), HG7.out⟩⟩
            · go_wp2_with fail
              have HF : Hid (Below n0 z1 (z1.alloc (.cells #[.int .i64 0, .int .i64 0, .int .i64 0, .int .i64 0, .int .i64 0, .int .i64 0, .int .i64 0] 67))) := Lib.hid ((one_new z1 _).mono HN0.out)
              refine pieceEnd_normal ⟨HF.out, ?_⟩
              have HG6 : Hid ((z1.alloc (.cells #[.int .i64 0, .int .i64 0, .int .i64 0, .int .i64 0, .int .i64 0, .int .i64 0, .int .i64 0] 67)).heap[z1.heap.size]? = some (.cells #[.int .i64 0, .int .i64 0, .int .i64 0, .int .i64 0, .int .i64 0, .int .i64 0, .int .i64 0] 67 (0, 0))) := Lib.hid (heap_alloc_new _ _)
              have HL6 : Hid (n0 ≤ z1.heap.size) := Lib.hid HN0.out
              replace HZ := Lib.hid (HZ.out.trans HF.out); replace HN0 := Lib.hid (Nat.le_trans HN0.out HF.out.size)
              clear HF
              generalize z1.alloc (.cells #[.int .i64 0, .int .i64 0, .int .i64 0, .int .i64 0, .int .i64 0, .int .i64 0, .int .i64 0] 67) = z2 at *
              generalize z1.heap.size = g6 at *
              refine flow_one (F := Below n0) (fun _ _ _ => Below.trans) (fun _ => Below.refl _ _) 15 (by kernel_rfl) (by decide) ?_
              simp only [pick, List.getD_cons_zero, List.getD_cons_succ]
              go_wp2_with fail
              refine pieceEnd_normal ⟨Below.refl _ _, ?_⟩
              refine flow_one (F := Below n0) (fun _ _ _ => Below.trans) (fun _ => Below.refl _ _) 17 (by kernel_rfl) (by decide) ?_
              simp only [pick, List.getD_cons_zero, List.getD_cons_succ]
              go_wp2_with (refine wpList_store_row rfl 67 (.tmp 6) (.tmp 36) rfl g6 V.arr rfl (by rw [HVF.out]; rfl) 67 _ HG6.out V.info rfl V.one ?_)
              have HF : Hid (Below n0 z2 (z2.setRow g6 V.arr)) := Lib.hid (below_setRow (Below.refl _ _) HL6.out _)
              refine pieceEnd_normal ⟨HF.out, ?_⟩
              refine flow_done (by kernel_rfl) ?_
              replace HZ := Lib.hid (HZ.out.trans HF.out)
              have HG7 := Lib.hid (setRow_heap z2 g6 _ V.arr _ _ HG6.out)
              clear HF HG6 HL6
              generalize z2.setRow g6 V.arr = zz at *
              go_wp2_with fail
              go_meet
              exact ⟨g6, rfl, Lib.hid ⟨HU.out.trans (HZ.out.mono HU2.out), HG7.out⟩⟩
          · go_wp2_with fail
            have HF : Hid (Below n0 z0 (z0.alloc (.cells #[.int .i64 0, .int .i64 0, .int .i64 0, .int .i64 0, .int .i64 0, .int .i64 0, .int .i64 0] 67))) := Lib.hid ((one_new z0 _).mono HN0.out)
            refine pieceEnd_normal ⟨HF.out, ?_⟩
            have HG6 : Hid ((z0.alloc (.cells #[.int .i64 0, .int .i64 0, .int .i64 0, .int .i64 0, .int .i64 0, .int .i64 0, .int .i64 0] 67)).heap[z0.heap.size]? = some (.cells #[.int .i64 0, .int .i64 0, .int .i64 0, .int .i64 0, .int .i64 0, .int .i64 0, .int .i64 0] 67 (0, 0))) := Lib.hid (heap_alloc_new _ _)
            have HL6 : Hid (n0 ≤ z0.heap.size) := Lib.hid HN0.out
            replace HZ := Lib.hid (HZ.out.trans HF.out); replace HN0 := Lib.hid (Nat.le_trans HN0.out HF.out.size)
            clear HF
            generalize z0.alloc (.cells #[.int .i64 0, .int .i64 0, .int .i64 0, .int .i64 0, .int .i64 0, .int .i64 0, .int .i64 0] 67) = z1 at *
            generalize z0.heap.size = g6 at *
            refine flow_one (F := Below n0) (fun _ _ _ => Below.trans) (fun _ => Below.refl _ _) 14 (by kernel_rfl) (by decide) ?_
            simp only [pick, List.getD_cons_zero, List.getD_cons_succ]
            go_wp2_with fail
            refine (HRC.out z1 (HB0.out.trans (HZ.out.mono HB0N.out))).mono ?_
            rintro e z2 ⟨rfl, hb⟩
            have HF : Hid (Below n0 z1 z2) := Lib.hid (hb.mono HN0.out)
            replace HZ := Lib.hid (HZ.out.trans HF.out); replace HN0 := Lib.hid (Nat.le_trans HN0.out hb.size)
            replace HG6 : Hid (z2.heap[g6]? = some (.cells #[.int .i64 0, .int .i64 0, .int .i64 0, .int .i64 0, .int .i64 0, .int .i64 0, .int .i64 0] 67 (0, 0))) := Lib.hid ((hb.block _ (Array.getElem?_eq_some_iff.1 HG6.out).1).trans HG6.out)
            clear hb
            go_wp2_with fail
            refine pieceEnd_normal ⟨HF.out, ?_⟩
            clear HF
            refine flow_one (F := Below n0) (fun _ _ _ => Below.trans) (fun _ => Below.refl _ _) 15 (by kernel_rfl) (by decide) ?_
            simp only [pick, List.getD_cons_zero, List.getD_cons_succ]
            go_wp2_with fail
            refine pieceEnd_normal ⟨Below.refl _ _, ?_⟩
            refine flow_one (F := Below n0) (fun _ _ _ => Below.trans) (fun _ => Below.refl _ _) 17 (by kernel_rfl) (by decide) ?_
            simp only [pick, List.getD_cons_zero, List.getD_cons_succ]
            go_wp2_with (refine wpList_store_row rfl 67 (.tmp 6) (.tmp 36) rfl g6 V.arr rfl (by rw [HVF.out]; rfl) 67 _ HG6.out V.info rfl V.one ?_)
            have HF : Hid (Below n0 z2 (z2.setRow g6 V.arr)) := Lib.hid (below_setRow (Below.refl _ _) HL6.out _)
            refine pieceEnd_normal ⟨HF.out, ?_⟩
            refine flow_done (by kernel_rfl) ?_
            replace HZ := Lib.hid (HZ.out.trans HF.out)
            have HG7 := Lib.hid (setRow_heap z2 g6 _ V.arr _ _ HG6.out)
            clear HF HG6 HL6
            generalize z2.setRow g6 V.arr = zz at *
            go_wp2_with fail
            go_meet
            exact ⟨g6, rfl, Lib.hid ⟨HU.out.trans (HZ.out.mono HU2.out), HG7.out⟩⟩
        case rest =>
          obtain ⟨g6, rfl, HC⟩ := hcut
          have HG6 := Lib.hid HC.out.2; have HV3 : Hid (VRow wc A1 n1 c1 l') := Lib.hid (GRow.later HV.out HC.out.1); have HB3 := Lib.hid (HB.out.trans (HC.out.1.mono HB.out.size))
          have hln : l'.length = n1 := HV.out.len
          have HLJ := Lib.hid hln
          have hK := backV_le (lessV V) l' n1
          have HPE : Hid (vouchesUp (l.map (·.s)) ((l.take (j + 1)).map (·.s)) = l'.take (backV (lessV V) l' n1) ++ V :: l'.drop (backV (lessV V) l' n1)) := Lib.hid (by rw [HST2.out, insV, hln])
          generalize hke : backV (lessV V) l' n1 = K at HPE hK
          have HKK := Lib.hid hke
          clear hke hln HC HV HB HST2 HX HRC HVF
          generalize hy0 : wc = y0 at *
          clear hy0
          have HGL : Hid (g6 < y0.heap.size) := Lib.hid (Array.getElem?_eq_some_iff.1 HG6.out).1
          go_wp2_with fail
          go_loopw [7] (fun k wk => ∃ q : Nat, q ≤ n1 ∧ k = .int .i64 q ∧ Hid (backV (lessV V) l' q = K ∧ Below y0.heap.size y0 wk)) (fun k _ => (intOf k).toNat)
          case atStart => exact ⟨n1, Nat.le_refl _, rfl, Lib.hid ⟨HKK.out, Below.refl _ _⟩⟩
          case round =>
            obtain ⟨q, hq, rfl, HQ⟩ := hrel
            clear HKK
            by_cases hq0 : 0 < q
            · have hml : q - 1 < n1 := by omega
              have hq2 : (0 : Int) < (q : Int) := by omega
              have e0 : (0 : Int) ≤ (q : Int) - 1 := by omega
              have e1 : (q : Int) - 1 < (n1 : Int) := by omega
              have e2 : ((q : Int) - 1).toNat = q - 1 := by omega
              go_wp2_with fail
              refine wp_region_grow (by kernel_rfl) Later Later.refl (fun _ _ _ => Later.trans) [10] [([0, 1, 2, 3, 4, 5, 6, 7, 8], 9)] (by kernel_rfl) (by kernel_rfl) (by kernel_rfl) ?_
              simp only [List.map_cons, List.map_nil, pick, List.getD_cons_zero, List.getD_cons_succ]
              have HB4 : Hid (Below y0.heap.size y0 wr.drew) := Lib.hid HQ.out.2.drew
              have HBK : Hid (backV (lessV V) l' ((q - 1) + 1) = K) := Lib.hid (by rw [show q - 1 + 1 = q by omega]; exact HQ.out.1)
              clear HQ
              generalize wr.drew = z4 at *
              obtain ⟨b2, off2, hA2, hf2⟩ := GRow.futs (F := Later) Later.refl Vou.len (by decide) (fun _ h => h) (GRow.later HV3.out HB4.out) noVou (q - 1) hml
              subst hA2
              have hgl := vcells_futs (p := V) (F := Later) (W := z4) (b := g6) (off := 0) fun x j _ => box_futs (F := Later) Later.refl (fun _ h => h.block _ (Nat.lt_of_lt_of_le HGL.out HB4.out.size)) ((HB4.out.block _ HGL.out).trans HG6.out) x j
              obtain ⟨bv, hbv⟩ : ∃ bv, l'.getD (q - 1) noVou = bv := ⟨_, rfl⟩
              rw [hbv] at hf2
              have HBV := Lib.hid hbv
              clear hbv
              have hf2c := vcells_futs (p := bv) (F := Later) (W := z4) (b := b2) (off := off2 + (q - 1) * 7) fun x j hj => (hf2 x j hj).trans (by rw [← Vou.list, Array.getElem?_toList])
              clear hf2
              refine wpGrow_cons ?_
              repeat (first | (refine wpQuiet_load rfl 67 (.tmp 6) rfl ⟨g6, 0, none⟩ rfl (.agg V.arr) (fun w' h => by obtain ⟨x, rfl⟩ := h; exact hgl x) ?_; simp only [Act.put, List.setIfInBounds_toArray, List.set_cons_succ, List.set_cons_zero]) | (refine wpQuiet_load rfl 67 (.tmp 46) rfl ⟨b2, off2 + (q - 1) * 7, none⟩ rfl (.agg bv.arr) (fun w' h => by obtain ⟨x, rfl⟩ := h; exact hf2c x) ?_; simp only [Act.put, List.setIfInBounds_toArray, List.set_cons_succ, List.set_cons_zero]) | go_big_quiet_step (fail))
              refine wpQuiet_nil ?_
              clear hgl hf2c
              go_wp2_with fail
              refine (HLS.out z4 V bv).mono ?_
              rintro e w5 ⟨rfl, hb⟩
              have HF : Hid (Later z4 w5) := Lib.hid hb; have HB6 := Lib.hid (HB4.out.trans (hb.mono HB4.out.size)); clear hb HB4
              by_cases hbb : lessV V bv = true
              · have HBK2 : Hid (backV (lessV V) l' (q - 1) = K) := Lib.hid (by rw [← HBK.out, backV_go (by rw [HBV.out]; exact hbb)])
                rw [hbb]
                clear hbb HBV
                go_wp2_with fail
                refine pieceEnd_normal ⟨HF.out, ?_⟩
                clear HF
                refine wpGrow_nil ?_
                repeat (go_big_quiet_step (fail))
                refine wpQuiet_nil ?_
                go_wp2_with fail
                exact ⟨⟨q - 1, by omega, by go_num, Lib.hid ⟨HBK2.out, HB6.out⟩⟩, by simp [intOf]; omega⟩
              · have HBK2 : Hid (q - 1 + 1 = K) := Lib.hid (by rw [← HBK.out, backV_stop (by rw [HBV.out]; simpa using hbb)])
                rw [show lessV V bv = false by simpa using hbb]
                clear hbb HBV HBK
                go_wp2_with fail
                refine pieceEnd_normal ⟨HF.out, ?_⟩
                clear HF
                refine wpGrow_nil ?_
                repeat (go_big_quiet_step (fail))
                refine wpQuiet_nil ?_
                go_wp2_with fail
                have hKq : K = q := by have := HBK2.out; omega
                subst hKq
                clear HBK2
                have hs1 := fun w' => run_slice_to (P := Tryz.prog) (t := 64) Tryz.underlying64 vou_size (w0 := y0) HV3.out (i := (K : Int)) rfl hK .i64 w'
                have hs2 := fun w' => run_slice_from (P := Tryz.prog) (t := 64) Tryz.underlying64 vou_size (A := (some ⟨b2, off2, none⟩)) (n := n1) (c := c1) (k := K) (i := (K : Int)) rfl hK .i64 w'
                obtain ⟨n0, hn0⟩ : ∃ n0, w5.drew.heap.size = n0 := ⟨_, rfl⟩
                refine wp_region_flow (by kernel_rfl) (Below n0) ?_
                have HB5 : Hid (Below y0.heap.size y0 w5.drew) := Lib.hid HB6.out.drew
                clear HB6
                generalize w5.drew = u0 at *
                have HLT : Hid (VRow u0 (some ⟨b2, off2, none⟩) K c1 (l'.take K)) := Lib.hid (GRow.take Vou.len (by decide) (GRow.later HV3.out HB5.out) K hK)
                have HLD : Hid (VRow u0 (dropA (some ⟨b2, off2, none⟩) c1 K 7) (n1 - K) (c1 - K) (l'.drop K)) := Lib.hid (GRow.drop Vou.len (GRow.later HV3.out HB5.out) K hK)
                have hyn : y0.heap.size ≤ n0 := by rw [← hn0]; exact HB5.out.size
                have HN0 : Hid (n0 ≤ u0.heap.size) := Lib.hid (Nat.le_of_eq hn0.symm)
                have HNE := Lib.hid hn0
                have HZ : Hid (Below n0 u0 u0) := Lib.hid (Below.refl _ _)
                clear hn0
                generalize dropA (some ⟨b2, off2, none⟩) c1 K 7 = AD at hs2 HLD
                generalize l'.take K = l1 at *
                generalize l'.drop K = l2 at *
                have hk1 : l1.length = K := HLT.out.len
                have hk2 : l2.length = n1 - K := HLD.out.len
                have HK1 := Lib.hid hk1; have HK2 := Lib.hid hk2
                have hgl := vcells_futs (p := V) (F := Below n0) (W := u0) (b := g6) (off := 0) fun x j _ => box_futs (F := Below n0) (Below.refl n0) (fun _ h => h.block _ (Nat.lt_of_lt_of_le HGL.out hyn)) ((HB5.out.block _ HGL.out).trans HG6.out) x j
                clear hk1 hk2
                refine flow_reads (F := Below n0) (fun _ => Below.refl _ _) (by kernel_rfl) [0, 1, 2, 4, 7, 8, 9] (fuel := 5) (by kernel_rfl) ?_
                simp only [List.map_cons, List.map_nil, pick, List.getD_cons_zero, List.getD_cons_succ]
                repeat (first | (refine wpQuiet_load rfl 67 (.tmp 6) rfl ⟨g6, 0, none⟩ rfl (.agg V.arr) (fun w' h => by obtain ⟨x, rfl⟩ := h; exact hgl x) ?_; simp only [Act.put, List.setIfInBounds_toArray, List.set_cons_succ, List.set_cons_zero]) | go_big_quiet_step (fail))
                refine wpQuiet_nil ?_
                clear hs1 hs2 hgl
                refine flow_two (F := Below n0) (fun _ _ _ => Below.trans) (fun _ => Below.refl _ _) 3 5 (by kernel_rfl) (by decide) (by decide) ?_ ?_ <;> simp only [pick, List.getD_cons_zero, List.getD_cons_succ]
                · have HZL : Hid (Below u0.heap.size u0 u0) := Lib.hid (by have h := HZ.out; rw [← HNE.out] at h; exact h)
                  go_wp2_with (at_builtin; go_must (refine wpList_app u0 rfl (.const (.slice none 0 0)) (.tmp 54) 64 64 67 rfl n0 Tryz.underlying64 vou_info rfl _ 0 [] (World.ownsRow_nil _ _ _ _) rfl _ K (rowC Vou.cells l1) (Row.src (GRow.later HLT.out HZL.out) Tryz.underlying64 (rowC_ones Vou.ones _)) rfl (by unfold maxLen; omega) (by omega) HN0.out ?_); intro v1 z1 ho hb; rw [Nat.zero_add, List.nil_append] at ho; have HO1 := Lib.hid ho; have HF : Hid (Below n0 u0 z1) := Lib.hid hb; replace HZ := Lib.hid (HZ.out.trans hb); replace HN0 := Lib.hid (Nat.le_trans HN0.out hb.size); clear ho hb)
                  refine pieceEnd_normal ⟨HF.out, ?_⟩
                  clear HF
                  refine flow_one (F := Below n0) (fun _ _ _ => Below.trans) (fun _ => Below.refl _ _) 5 (by kernel_rfl) (by decide) ?_
                  simp only [pick, List.getD_cons_zero, List.getD_cons_succ]
                  have hvs : V.arr.size = 7 := rfl
                  go_wp2_with fail
                  clear hvs
                  (first | rw [fold7n] | rw [fold7])
                  have HF : Hid (Below n0 z1 (z1.alloc (.cells V.arr 67))) := Lib.hid ((one_new z1 _).mono HN0.out)
                  refine pieceEnd_normal ⟨HF.out, ?_⟩
                  have HR3 : Hid (Row (z1.alloc (.cells V.arr 67)) (some ⟨z1.heap.size, 0, none⟩) 1 1 7 (rowC Vou.cells [V])) := Lib.hid (Row.of_block (heap_alloc_new _ _) rfl)
                  replace HO1 := Lib.hid (World.ownsRow.alloc HO1.out (.cells V.arr 67))
                  replace HZ := Lib.hid (HZ.out.trans HF.out); replace HN0 := Lib.hid (Nat.le_trans HN0.out HF.out.size)
                  clear HF
                  obtain ⟨g3, hg3⟩ : ∃ g3, z1.heap.size = g3 := ⟨_, rfl⟩
                  rw [hg3] at HR3 ⊢
                  have HG3 := Lib.hid hg3
                  generalize z1.alloc (.cells V.arr 67) = z2 at *
                  refine flow_one (F := Below n0) (fun _ _ _ => Below.trans) (fun _ => Below.refl _ _) 6 (by kernel_rfl) (by decide) ?_
                  simp only [pick, List.getD_cons_zero, List.getD_cons_succ]
                  go_wp2_with (at_builtin; go_must (refine wpList_app2 z2 rfl (.tmp 55) (.tmp 57) 64 64 67 rfl n0 Tryz.underlying64 vou_info rfl _ K _ HO1.out rfl (.slice (some ⟨g3, 0, none⟩) 1 1) 1 (rowC Vou.cells [V]) (Row.src HR3.out Tryz.underlying64 (rowC_ones Vou.ones _)) rfl (by unfold maxLen; omega) (by omega) HN0.out ?_); intro v4 z4 ho hb hkp hv; have HO5 := Lib.hid ho; have HF : Hid (Below n0 z2 z4) := Lib.hid hb; replace HZ := Lib.hid (HZ.out.trans hb); replace HN0 := Lib.hid (Nat.le_trans HN0.out hb.size); clear ho hb hkp hv)
                  refine pieceEnd_normal ⟨HF.out, ?_⟩
                  clear HF
                  have HD4 : Hid (VRow z4 AD (n1 - K) (c1 - K) l2) := Lib.hid (GRow.later HLD.out (by have h := HZ.out; rw [← HNE.out] at h; exact h))
                  refine flow_one (F := Below n0) (fun _ _ _ => Below.trans) (fun _ => Below.refl _ _) 10 (by kernel_rfl) (by decide) ?_
                  simp only [pick, List.getD_cons_zero, List.getD_cons_succ]
                  go_wp2_with (at_builtin; go_must (refine wpList_app2 z4 rfl (.tmp 58) (.tmp 61) 64 64 67 rfl n0 Tryz.underlying64 vou_info rfl _ (K + 1) _ HO5.out rfl _ (n1 - K) (rowC Vou.cells l2) (Row.src HD4.out Tryz.underlying64 (rowC_ones Vou.ones _)) rfl (by unfold maxLen; omega) (by omega) HN0.out ?_); intro v4 z5 ho hb hkp hv; have HO6 := Lib.hid ho; have HF : Hid (Below n0 z4 z5) := Lib.hid hb; replace HZ := Lib.hid (HZ.out.trans hb); replace HN0 := Lib.hid (Nat.le_trans HN0.out hb.size); clear ho hb hkp hv)
                  refine pieceEnd_normal ⟨HF.out, ?_⟩
                  clear HF
                  refine flow_reads (F := Below n0) (fun _ => Below.refl _ _) (by kernel_rfl) [11] (fuel := 0) (by kernel_rfl) ?_
                  simp only [List.map_cons, List.map_nil, pick, List.getD_cons_zero, List.getD_cons_succ]
                  repeat (go_big_quiet_step (fail))
                  refine wpQuiet_nil ?_
                  refine flow_done (by kernel_rfl) ?_
                  go_wp2_with fail
                  have HO7 : Hid (z5.ownsRow n0 67 7 _ (K + 1 + (n1 - K)) (rowC Vou.cells (l1 ++ [V] ++ l2))) := Lib.hid (by rw [rowC_app, rowC_app]; exact HO6.out)
                  obtain ⟨A5, c5, hv5, hr5⟩ := Row.of_own HO7.out
                  subst hv5
                  exact ⟨⟨j + 1, A5, K + 1 + (n1 - K), c5, l1 ++ [V] ++ l2, by omega, rfl, by go_num, by omega, Lib.hid ⟨hr5, by rw [HPE.out, List.append_assoc]; rfl, HB3.out.trans ((HB5.out.trans (HZ.out.mono hyn)).mono HB3.out.size)⟩⟩, by simp [intOf]; omega⟩
                · have hvs : V.arr.size = 7 := rfl
                  go_wp2_with fail
                  clear hvs
                  (first | rw [fold7n] | rw [fold7])
                  have HF : Hid (Below n0 u0 (u0.alloc (.cells V.arr 67))) := Lib.hid ((one_new u0 _).mono HN0.out)
                  refine pieceEnd_normal ⟨HF.out, ?_⟩
                  have HR3 : Hid (Row (u0.alloc (.cells V.arr 67)) (some ⟨u0.heap.size, 0, none⟩) 1 1 7 (rowC Vou.cells [V])) := Lib.hid (Row.of_block (heap_alloc_new _ _) rfl)
                  replace HZ := Lib.hid (HZ.out.trans HF.out); replace HN0 := Lib.hid (Nat.le_trans HN0.out HF.out.size)
                  clear HF
                  obtain ⟨g3, hg3⟩ : ∃ g3, u0.heap.size = g3 := ⟨_, rfl⟩
                  rw [hg3] at HR3 ⊢
                  have HG3 := Lib.hid hg3
                  generalize u0.alloc (.cells V.arr 67) = z1 at *
                  refine flow_one (F := Below n0) (fun _ _ _ => Below.trans) (fun _ => Below.refl _ _) 3 (by kernel_rfl) (by decide) ?_
                  simp only [pick, List.getD_cons_zero, List.getD_cons_succ]
                  have HZL : Hid (Below u0.heap.size u0 z1) := Lib.hid (by have h := HZ.out; rw [← HNE.out] at h; exact h)
                  go_wp2_with (at_builtin; go_must (refine wpList_app2 z1 rfl (.const (.slice none 0 0)) (.tmp 54) 64 64 67 rfl n0 Tryz.underlying64 vou_info rfl _ 0 [] (World.ownsRow_nil _ _ _ _) rfl _ K (rowC Vou.cells l1) (Row.src (GRow.later HLT.out HZL.out) Tryz.underlying64 (rowC_ones Vou.ones _)) rfl (by unfold maxLen; omega) (by omega) HN0.out ?_); intro v1 z2 ho hb hkp _; rw [Nat.zero_add, List.nil_append] at ho; have HO1 := Lib.hid ho; have HF : Hid (Below n0 z1 z2) := Lib.hid hb; replace HR3 := Lib.hid (Row.keep HR3.out fun ad _ _ hlt => hkp _ hlt (fun e => by cases e)); replace HZ := Lib.hid (HZ.out.trans hb); replace HN0 := Lib.hid (Nat.le_trans HN0.out hb.size); clear ho hb hkp)
                  refine pieceEnd_normal ⟨HF.out, ?_⟩
                  clear HF
                  refine flow_one (F := Below n0) (fun _ _ _ => Below.trans) (fun _ => Below.refl _ _) 6 (by kernel_rfl) (by decide) ?_
                  simp only [pick, List.getD_cons_zero, List.getD_cons_succ]
                  go_wp2_with (at_builtin; go_must (refine wpList_app2 z2 rfl (.tmp 55) (.tmp 57) 64 64 67 rfl n0 Tryz.underlying64 vou_info rfl _ K _ HO1.out rfl (.slice (some ⟨g3, 0, none⟩) 1 1) 1 (rowC Vou.cells [V]) (Row.src HR3.out Tryz.underlying64 (rowC_ones Vou.ones _)) rfl (by unfold maxLen; omega) (by omega) HN0.out ?_); intro v4 z4 ho hb hkp hv; have HO5 := Lib.hid ho; have HF : Hid (Below n0 z2 z4) := Lib.hid hb; replace HZ := Lib.hid (HZ.out.trans hb); replace HN0 := Lib.hid (Nat.le_trans HN0.out hb.size); clear ho hb hkp hv)
                  refine pieceEnd_normal ⟨HF.out, ?_⟩
                  clear HF
                  have HD4 : Hid (VRow z4 AD (n1 - K) (c1 - K) l2) := Lib.hid (GRow.later HLD.out (by have h := HZ.out; rw [← HNE.out] at h; exact h))
                  refine flow_one (F := Below n0) (fun _ _ _ => Below.trans) (fun _ => Below.refl _ _) 10 (by kernel_rfl) (by decide) ?_
                  simp only [pick, List.getD_cons_zero, List.getD_cons_succ]
                  go_wp2_with (at_builtin; go_must (refine wpList_app2 z4 rfl (.tmp 58) (.tmp 61) 64 64 67 rfl n0 Tryz.underlying64 vou_info rfl _ (K + 1) _ HO5.out rfl _ (n1 - K) (rowC Vou.cells l2) (Row.src HD4.out Tryz.underlying64 (rowC_ones Vou.ones _)) rfl (by unfold maxLen; omega) (by omega) HN0.out ?_); intro v4 z5 ho hb hkp hv; have HO6 := Lib.hid ho; have HF : Hid (Below n0 z4 z5) := Lib.hid hb; replace HZ := Lib.hid (HZ.out.trans hb); replace HN0 := Lib.hid (Nat.le_trans HN0.out hb.size); clear ho hb hkp hv)
                  refine pieceEnd_normal ⟨HF.out, ?_⟩
                  clear HF
                  refine flow_reads (F := Below n0) (fun _ => Below.refl _ _) (by kernel_rfl) [11] (fuel := 0) (by kernel_rfl) ?_
                  simp only [List.map_cons, List.map_nil, pick, List.getD_cons_zero, List.getD_cons_succ]
                  repeat (go_big_quiet_step (fail))
                  refine wpQuiet_nil ?_
                  refine flow_done (by kernel_rfl) ?_
                  go_wp2_with fail
                  have HO7 : Hid (z5.ownsRow n0 67 7 _ (K + 1 + (n1 - K)) (rowC Vou.cells (l1 ++ [V] ++ l2))) := Lib.hid (by rw [rowC_app, rowC_app]; exact HO6.out)
                  obtain ⟨A5, c5, hv5, hr5⟩ := Row.of_own HO7.out
                  subst hv5
                  exact ⟨⟨j + 1, A5, K + 1 + (n1 - K), c5, l1 ++ [V] ++ l2, by omega, rfl, by go_num, by omega, Lib.hid ⟨hr5, by rw [HPE.out, List.append_assoc]; rfl, HB3.out.trans ((HB5.out.trans (HZ.out.mono hyn)).mono HB3.out.size)⟩⟩, by simp [intOf]; omega⟩
            · have hq2 : ¬ (0 : Int) < (q : Int) := by omega
              have HK0 : Hid (K = 0) := Lib.hid (by have h := HQ.out.1; rw [show q = 0 by omega] at h; exact h.symm)
              go_wp2_with fail
              refine wp_region_grow (by kernel_rfl) Later Later.refl (fun _ _ _ => Later.trans) [10] [([0, 1, 2, 3, 4, 5, 6, 7, 8], 9)] (by kernel_rfl) (by kernel_rfl) (by kernel_rfl) ?_
              simp only [List.map_cons, List.map_nil, pick, List.getD_cons_zero, List.getD_cons_succ]
              have HB4 : Hid (Below y0.heap.size y0 wr.drew) := Lib.hid HQ.out.2.drew
              clear HQ
              generalize wr.drew = z4 at *
              refine wpGrow_cons ?_
              repeat (go_big_quiet_step (fail))
              refine wpQuiet_nil ?_
              go_wp2_with fail
              have HF : Hid (Later z4 z4) := Lib.hid (Later.refl _)
              go_wp2_with fail
              refine pieceEnd_normal ⟨HF.out, ?_⟩
              clear HF
              refine wpGrow_nil ?_
              repeat (go_big_quiet_step (fail))
              refine wpQuiet_nil ?_
              go_wp2_with fail
              have hKq : K = q := by have := HK0.out; omega
              subst hKq
              clear HK0
              have hs1 := fun w' => run_slice_to (P := Tryz.prog) (t := 64) Tryz.underlying64 vou_size (w0 := y0) HV3.out (i := (K : Int)) rfl hK .i64 w'
              have hs2 := fun w' => run_slice_from (P := Tryz.prog) (t := 64) Tryz.underlying64 vou_size (A := A1) (n := n1) (c := c1) (k := K) (i := (K : Int)) rfl hK .i64 w'
              obtain ⟨n0, hn0⟩ : ∃ n0, z4.drew.heap.size = n0 := ⟨_, rfl⟩
              refine wp_region_flow (by kernel_rfl) (Below n0) ?_
              have HB5 : Hid (Below y0.heap.size y0 z4.drew) := Lib.hid HB4.out.drew
              clear HB4
              generalize z4.drew = u0 at *
              have HLT : Hid (VRow u0 A1 K c1 (l'.take K)) := Lib.hid (GRow.take Vou.len (by decide) (GRow.later HV3.out HB5.out) K hK)
              have HLD : Hid (VRow u0 (dropA A1 c1 K 7) (n1 - K) (c1 - K) (l'.drop K)) := Lib.hid (GRow.drop Vou.len (GRow.later HV3.out HB5.out) K hK)
              have hyn : y0.heap.size ≤ n0 := by rw [← hn0]; exact HB5.out.size
              have HN0 : Hid (n0 ≤ u0.heap.size) := Lib.hid (Nat.le_of_eq hn0.symm)
              have HNE := Lib.hid hn0
              have HZ : Hid (Below n0 u0 u0) := Lib.hid (Below.refl _ _)
              clear hn0
              generalize dropA A1 c1 K 7 = AD at hs2 HLD
              generalize l'.take K = l1 at *
              generalize l'.drop K = l2 at *
              have hk1 : l1.length = K := HLT.out.len
              have hk2 : l2.length = n1 - K := HLD.out.len
              have HK1 := Lib.hid hk1; have HK2 := Lib.hid hk2
              have hgl := vcells_futs (p := V) (F := Below n0) (W := u0) (b := g6) (off := 0) fun x j _ => box_futs (F := Below n0) (Below.refl n0) (fun _ h => h.block _ (Nat.lt_of_lt_of_le HGL.out hyn)) ((HB5.out.block _ HGL.out).trans HG6.out) x j
              clear hk1 hk2
              refine flow_reads (F := Below n0) (fun _ => Below.refl _ _) (by kernel_rfl) [0, 1, 2, 4, 7, 8, 9] (fuel := 5) (by kernel_rfl) ?_
              simp only [List.map_cons, List.map_nil, pick, List.getD_cons_zero, List.getD_cons_succ]
              repeat (first | (refine wpQuiet_load rfl 67 (.tmp 6) rfl ⟨g6, 0, none⟩ rfl (.agg V.arr) (fun w' h => by obtain ⟨x, rfl⟩ := h; exact hgl x) ?_; simp only [Act.put, List.setIfInBounds_toArray, List.set_cons_succ, List.set_cons_zero]) | go_big_quiet_step (fail))
              refine wpQuiet_nil ?_
              clear hs1 hs2 hgl
              refine flow_two (F := Below n0) (fun _ _ _ => Below.trans) (fun _ => Below.refl _ _) 3 5 (by kernel_rfl) (by decide) (by decide) ?_ ?_ <;> simp only [pick, List.getD_cons_zero, List.getD_cons_succ]
              · have HZL : Hid (Below u0.heap.size u0 u0) := Lib.hid (by have h := HZ.out; rw [← HNE.out] at h; exact h)
                go_wp2_with (at_builtin; go_must (refine wpList_app u0 rfl (.const (.slice none 0 0)) (.tmp 54) 64 64 67 rfl n0 Tryz.underlying64 vou_info rfl _ 0 [] (World.ownsRow_nil _ _ _ _) rfl _ K (rowC Vou.cells l1) (Row.src (GRow.later HLT.out HZL.out) Tryz.underlying64 (rowC_ones Vou.ones _)) rfl (by unfold maxLen; omega) (by omega) HN0.out ?_); intro v1 z1 ho hb; rw [Nat.zero_add, List.nil_append] at ho; have HO1 := Lib.hid ho; have HF : Hid (Below n0 u0 z1) := Lib.hid hb; replace HZ := Lib.hid (HZ.out.trans hb); replace HN0 := Lib.hid (Nat.le_trans HN0.out hb.size); clear ho hb)
                refine pieceEnd_normal ⟨HF.out, ?_⟩
                clear HF
                refine flow_one (F := Below n0) (fun _ _ _ => Below.trans) (fun _ => Below.refl _ _) 5 (by kernel_rfl) (by decide) ?_
                simp only [pick, List.getD_cons_zero, List.getD_cons_succ]
                have hvs : V.arr.size = 7 := rfl
                go_wp2_with fail
                clear hvs
                (first | rw [fold7n] | rw [fold7])
                have HF : Hid (Below n0 z1 (z1.alloc (.cells V.arr 67))) := Lib.hid ((one_new z1 _).mono HN0.out)
                refine pieceEnd_normal ⟨HF.out, ?_⟩
                have HR3 : Hid (Row (z1.alloc (.cells V.arr 67)) (some ⟨z1.heap.size, 0, none⟩) 1 1 7 (rowC Vou.cells [V])) := Lib.hid (Row.of_block (heap_alloc_new _ _) rfl)
                replace HO1 := Lib.hid (World.ownsRow.alloc HO1.out (.cells V.arr 67))
                replace HZ := Lib.hid (HZ.out.trans HF.out); replace HN0 := Lib.hid (Nat.le_trans HN0.out HF.out.size)
                clear HF
                obtain ⟨g3, hg3⟩ : ∃ g3, z1.heap.size = g3 := ⟨_, rfl⟩
                rw [hg3] at HR3 ⊢
                have HG3 := Lib.hid hg3
                generalize z1.alloc (.cells V.arr 67) = z2 at *
                refine flow_one (F := Below n0) (fun _ _ _ => Below.trans) (fun _ => Below.refl _ _) 6 (by kernel_rfl) (by decide) ?_
                simp only [pick, List.getD_cons_zero, List.getD_cons_succ]
                go_wp2_with (at_builtin; go_must (refine wpList_app2 z2 rfl (.tmp 55) (.tmp 57) 64 64 67 rfl n0 Tryz.underlying64 vou_info rfl _ K _ HO1.out rfl (.slice (some ⟨g3, 0, none⟩) 1 1) 1 (rowC Vou.cells [V]) (Row.src HR3.out Tryz.underlying64 (rowC_ones Vou.ones _)) rfl (by unfold maxLen; omega) (by omega) HN0.out ?_); intro v4 z4 ho hb hkp hv; have HO5 := Lib.hid ho; have HF : Hid (Below n0 z2 z4) := Lib.hid hb; replace HZ := Lib.hid (HZ.out.trans hb); replace HN0 := Lib.hid (Nat.le_trans HN0.out hb.size); clear ho hb hkp hv)
                refine pieceEnd_normal ⟨HF.out, ?_⟩
                clear HF
                have HD4 : Hid (VRow z4 AD (n1 - K) (c1 - K) l2) := Lib.hid (GRow.later HLD.out (by have h := HZ.out; rw [← HNE.out] at h; exact h))
                refine flow_one (F := Below n0) (fun _ _ _ => Below.trans) (fun _ => Below.refl _ _) 10 (by kernel_rfl) (by decide) ?_
                simp only [pick, List.getD_cons_zero, List.getD_cons_succ]
                go_wp2_with (at_builtin; go_must (refine wpList_app2 z4 rfl (.tmp 58) (.tmp 61) 64 64 67 rfl n0 Tryz.underlying64 vou_info rfl _ (K + 1) _ HO5.out rfl _ (n1 - K) (rowC Vou.cells l2) (Row.src HD4.out Tryz.underlying64 (rowC_ones Vou.ones _)) rfl (by unfold maxLen; omega) (by omega) HN0.out ?_); intro v4 z5 ho hb hkp hv; have HO6 := Lib.hid ho; have HF : Hid (Below n0 z4 z5) := Lib.hid hb; replace HZ := Lib.hid (HZ.out.trans hb); replace HN0 := Lib.hid (Nat.le_trans HN0.out hb.size); clear ho hb hkp hv)
                refine pieceEnd_normal ⟨HF.out, ?_⟩
                clear HF
                refine flow_reads (F := Below n0) (fun _ => Below.refl _ _) (by kernel_rfl) [11] (fuel := 0) (by kernel_rfl) ?_
                simp only [List.map_cons, List.map_nil, pick, List.getD_cons_zero, List.getD_cons_succ]
                repeat (go_big_quiet_step (fail))
                refine wpQuiet_nil ?_
                refine flow_done (by kernel_rfl) ?_
                go_wp2_with fail
                have HO7 : Hid (z5.ownsRow n0 67 7 _ (K + 1 + (n1 - K)) (rowC Vou.cells (l1 ++ [V] ++ l2))) := Lib.hid (by rw [rowC_app, rowC_app]; exact HO6.out)
                obtain ⟨A5, c5, hv5, hr5⟩ := Row.of_own HO7.out
                subst hv5
                exact ⟨⟨j + 1, A5, K + 1 + (n1 - K), c5, l1 ++ [V] ++ l2, by omega, rfl, by go_num, by omega, Lib.hid ⟨hr5, by rw [HPE.out, List.append_assoc]; rfl, HB3.out.trans ((HB5.out.trans (HZ.out.mono hyn)).mono HB3.out.size)⟩⟩, by simp [intOf]; omega⟩
              · have hvs : V.arr.size = 7 := rfl
                go_wp2_with fail
                clear hvs
                (first | rw [fold7n] | rw [fold7])
                have HF : Hid (Below n0 u0 (u0.alloc (.cells V.arr 67))) := Lib.hid ((one_new u0 _).mono HN0.out)
                refine pieceEnd_normal ⟨HF.out, ?_⟩
                have HR3 : Hid (Row (u0.alloc (.cells V.arr 67)) (some ⟨u0.heap.size, 0, none⟩) 1 1 7 (rowC Vou.cells [V])) := Lib.hid (Row.of_block (heap_alloc_new _ _) rfl)
                replace HZ := Lib.hid (HZ.out.trans HF.out); replace HN0 := Lib.hid (Nat.le_trans HN0.out HF.out.size)
                clear HF
                obtain ⟨g3, hg3⟩ : ∃ g3, u0.heap.size = g3 := ⟨_, rfl⟩
                rw [hg3] at HR3 ⊢
                have HG3 := Lib.hid hg3
                generalize u0.alloc (.cells V.arr 67) = z1 at *
                refine flow_one (F := Below n0) (fun _ _ _ => Below.trans) (fun _ => Below.refl _ _) 3 (by kernel_rfl) (by decide) ?_
                simp only [pick, List.getD_cons_zero, List.getD_cons_succ]
                have HZL : Hid (Below u0.heap.size u0 z1) := Lib.hid (by have h := HZ.out; rw [← HNE.out] at h; exact h)
                go_wp2_with (at_builtin; go_must (refine wpList_app2 z1 rfl (.const (.slice none 0 0)) (.tmp 54) 64 64 67 rfl n0 Tryz.underlying64 vou_info rfl _ 0 [] (World.ownsRow_nil _ _ _ _) rfl _ K (rowC Vou.cells l1) (Row.src (GRow.later HLT.out HZL.out) Tryz.underlying64 (rowC_ones Vou.ones _)) rfl (by unfold maxLen; omega) (by omega) HN0.out ?_); intro v1 z2 ho hb hkp _; rw [Nat.zero_add, List.nil_append] at ho; have HO1 := Lib.hid ho; have HF : Hid (Below n0 z1 z2) := Lib.hid hb; replace HR3 := Lib.hid (Row.keep HR3.out fun ad _ _ hlt => hkp _ hlt (fun e => by cases e)); replace HZ := Lib.hid (HZ.out.trans hb); replace HN0 := Lib.hid (Nat.le_trans HN0.out hb.size); clear ho hb hkp)
                refine pieceEnd_normal ⟨HF.out, ?_⟩
                clear HF
                refine flow_one (F := Below n0) (fun _ _ _ => Below.trans) (fun _ => Below.refl _ _) 6 (by kernel_rfl) (by decide) ?_
                simp only [pick, List.getD_cons_zero, List.getD_cons_succ]
                go_wp2_with (at_builtin; go_must (refine wpList_app2 z2 rfl (.tmp 55) (.tmp 57) 64 64 67 rfl n0 Tryz.underlying64 vou_info rfl _ K _ HO1.out rfl (.slice (some ⟨g3, 0, none⟩) 1 1) 1 (rowC Vou.cells [V]) (Row.src HR3.out Tryz.underlying64 (rowC_ones Vou.ones _)) rfl (by unfold maxLen; omega) (by omega) HN0.out ?_); intro v4 z4 ho hb hkp hv; have HO5 := Lib.hid ho; have HF : Hid (Below n0 z2 z4) := Lib.hid hb; replace HZ := Lib.hid (HZ.out.trans hb); replace HN0 := Lib.hid (Nat.le_trans HN0.out hb.size); clear ho hb hkp hv)
                refine pieceEnd_normal ⟨HF.out, ?_⟩
                clear HF
                have HD4 : Hid (VRow z4 AD (n1 - K) (c1 - K) l2) := Lib.hid (GRow.later HLD.out (by have h := HZ.out; rw [← HNE.out] at h; exact h))
                refine flow_one (F := Below n0) (fun _ _ _ => Below.trans) (fun _ => Below.refl _ _) 10 (by kernel_rfl) (by decide) ?_
                simp only [pick, List.getD_cons_zero, List.getD_cons_succ]
                go_wp2_with (at_builtin; go_must (refine wpList_app2 z4 rfl (.tmp 58) (.tmp 61) 64 64 67 rfl n0 Tryz.underlying64 vou_info rfl _ (K + 1) _ HO5.out rfl _ (n1 - K) (rowC Vou.cells l2) (Row.src HD4.out Tryz.underlying64 (rowC_ones Vou.ones _)) rfl (by unfold maxLen; omega) (by omega) HN0.out ?_); intro v4 z5 ho hb hkp hv; have HO6 := Lib.hid ho; have HF : Hid (Below n0 z4 z5) := Lib.hid hb; replace HZ := Lib.hid (HZ.out.trans hb); replace HN0 := Lib.hid (Nat.le_trans HN0.out hb.size); clear ho hb hkp hv)
                refine pieceEnd_normal ⟨HF.out, ?_⟩
                clear HF
                refine flow_reads (F := Below n0) (fun _ => Below.refl _ _) (by kernel_rfl) [11] (fuel := 0) (by kernel_rfl) ?_
                simp only [List.map_cons, List.map_nil, pick, List.getD_cons_zero, List.getD_cons_succ]
                repeat (go_big_quiet_step (fail))
                refine wpQuiet_nil ?_
                refine flow_done (by kernel_rfl) ?_
                go_wp2_with fail
                have HO7 : Hid (z5.ownsRow n0 67 7 _ (K + 1 + (n1 - K)) (rowC Vou.cells (l1 ++ [V] ++ l2))) := Lib.hid (by rw [rowC_app, rowC_app]; exact HO6.out)
                obtain ⟨A5, c5, hv5, hr5⟩ := Row.of_own HO7.out
                subst hv5
                exact ⟨⟨j + 1, A5, K + 1 + (n1 - K), c5, l1 ++ [V] ++ l2, by omega, rfl, by go_num, by omega, Lib.hid ⟨hr5, by rw [HPE.out, List.append_assoc]; rfl, HB3.out.trans ((HB5.out.trans (HZ.out.mono hyn)).mono HB3.out.size)⟩⟩, by simp [intOf]; omega⟩
      · have b0 : (q.s.kind != 1) = true := by rw [bne_iff_ne]; exact hk
        have HST2 : Hid (vouchesUp (l.map (·.s)) ((l.take (j + 1)).map (·.s)) = l') := Lib.hid (by rw [HST.out, vouStep, if_neg hk])
        clear hk HST
        go_wp2_with fail
        exact ⟨⟨j + 1, A1, n1, c1, l', by omega, rfl, by go_num, by omega, Lib.hid ⟨HV.out, HST2.out.symm, HB.out⟩⟩, by simp [intOf]; omega⟩
    · have hlt2 : ¬ (j : Int) < (n : Int) := by omega
      have HE : Hid (l' = GS) := Lib.hid (by rw [HQ.out.2.1, List.take_of_length_le (by rw [HLN.out]; omega)]; exact HGS.out)
      go_wp2_with fail
      go_ret
      exact ⟨_, _, _, rfl, by rw [← HE.out]; exact HQ.out.1, HQ.out.2.2⟩
end Go.Proofs.YtnmpbjgccbnomaaGreat
