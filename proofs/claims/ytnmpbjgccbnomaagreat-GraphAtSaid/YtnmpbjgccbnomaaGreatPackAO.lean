import Derived.Test.YtnmpbjgccbnomaaGreatPackAN
/- Vouches: rows of them, their order, whether a number is in a list, whether two lists are the same. -/
namespace Go.Proofs.YtnmpbjgccbnomaaGreat
open Go.RowKit
structure Vou where
  fr : Int
  tu : Int
  lv : Int
  nu : Int
  tm : Int
  en : Int
  rv : Int
def Vou.cells (p : Vou) : List Value := [.int .i64 p.fr, .int .i64 p.tu, .int .i64 p.lv, .int .i64 p.nu, .int .i64 p.tm, .int .i64 p.en, .int .i64 p.rv]
def Vou.arr (p : Vou) : Array Value := #[.int .i64 p.fr, .int .i64 p.tu, .int .i64 p.lv, .int .i64 p.nu, .int .i64 p.tm, .int .i64 p.en, .int .i64 p.rv]
def noVou : Vou := ⟨0, 0, 0, 0, 0, 0, 0⟩
theorem Vou.size (p : Vou) : p.arr.size = 7 := rfl
theorem Vou.len (p : Vou) : p.cells.length = 7 := rfl
theorem Vou.list (p : Vou) : p.arr.toList = p.cells := rfl
theorem Vou.one (p : Vou) : p.arr.all (·.oneCell') = true := by simp [Vou.arr, Value.oneCell']
theorem Vou.ones (p : Vou) : ∀ u ∈ p.cells, u.oneCell' = true := fun u hu => by
  have h := p.one
  rw [Array.all_eq_true_iff_forall_mem] at h
  exact h u (by rw [← Array.mem_toList_iff, p.list]; exact hu)
theorem Vou.info (p : Vou) : (Tryz.prog.info? 67).map (·.size) = some p.arr.size := by rw [p.size]; kernel_rfl
abbrev VRow (w : World) (A : Option Addr) (n c : Nat) (l : List Vou) : Prop := GRow Vou.cells 7 w A n c l
theorem VRow.len {w : World} {A : Option Addr} {n c : Nat} {l : List Vou} (h : VRow w A n c l) : l.length = n := GRow.len Vou.len (by decide) h
/-- The order of vouches. -/
def lessV (a b : Vou) : Bool := if a.fr = b.fr then (if a.tu = b.tu then decide (a.nu < b.nu) else decide (a.tu < b.tu)) else decide (a.fr < b.fr)
set_option maxRecDepth 100000 in
set_option maxHeartbeats 4000000 in
theorem less_any10 (p q : Vou) (w : World) : Calls Tryz.prog 84 #[.agg p.arr, .agg q.arr] w (SaysL (.bool (lessV p q)) w) := by
  have HV : Hid (lessV p q = if p.fr = q.fr then (if p.tu = q.tu then decide (p.nu < q.nu) else decide (p.tu < q.tu)) else decide (p.fr < q.fr)) := Lib.hid rfl
  generalize lessV p q = bb at HV ⊢
  have HCX : Hid (((w.alloc (.cells p.arr 67)).alloc (.cells q.arr 67)).heap[w.heap.size]? = some (.cells p.arr 67 (0, 0))) := Lib.hid ((Below.heap_alloc _ _ _ (by simp)).trans (heap_alloc_new _ _))
  have HDX : Hid (((w.alloc (.cells p.arr 67)).alloc (.cells q.arr 67)).heap[w.heap.size + 1]? = some (.cells q.arr 67 (0, 0))) := Lib.hid (heap_alloc2_new _ _ _)
  have HB : Hid (Below w.heap.size w ((w.alloc (.cells p.arr 67)).alloc (.cells q.arr 67))) := Lib.hid ((one_new w _).trans ((one_new _ _).mono (by simp)))
  go_enter Tryz.func84, Tryz.ntmps84
  have hc0 : ((w.alloc (.cells p.arr 67)).alloc (.cells q.arr 67)).cell? ⟨w.heap.size, 0, none⟩ = some (.int .i64 p.fr) := (cell_of_row _ _ 0 _ _ _ HCX.out).trans rfl
  have hc1 : ((w.alloc (.cells p.arr 67)).alloc (.cells q.arr 67)).cell? ⟨w.heap.size, 1, none⟩ = some (.int .i64 p.tu) := (cell_of_row _ _ 1 _ _ _ HCX.out).trans rfl
  have hc3 : ((w.alloc (.cells p.arr 67)).alloc (.cells q.arr 67)).cell? ⟨w.heap.size, 3, none⟩ = some (.int .i64 p.nu) := (cell_of_row _ _ 3 _ _ _ HCX.out).trans rfl
  have hd0 : ((w.alloc (.cells p.arr 67)).alloc (.cells q.arr 67)).cell? ⟨w.heap.size + 1, 0, none⟩ = some (.int .i64 q.fr) := (cell_of_row _ _ 0 _ _ _ HDX.out).trans rfl
  have hd1 : ((w.alloc (.cells p.arr 67)).alloc (.cells q.arr 67)).cell? ⟨w.heap.size + 1, 1, none⟩ = some (.int .i64 q.tu) := (cell_of_row _ _ 1 _ _ _ HDX.out).trans rfl
  have hd3 : ((w.alloc (.cells p.arr 67)).alloc (.cells q.arr 67)).cell? ⟨w.heap.size + 1, 3, none⟩ = some (.int .i64 q.nu) := (cell_of_row _ _ 3 _ _ _ HDX.out).trans rfl
  clear HCX HDX
  by_cases e0 : p.fr = q.fr
  · have b0 : (p.fr != q.fr) = false := by rw [e0]; simp
    rw [if_pos e0] at HV
    clear e0
    by_cases e1 : p.tu = q.tu
    · have b1 : (p.tu != q.tu) = false := by rw [e1]; simp
      rw [if_pos e1] at HV
      clear e1
      go_wp2_with fail
      go_ret
      exact ⟨by rw [HV.out]; first | done | rfl, HB.out⟩
    · have b1 : (p.tu != q.tu) = true := by rw [bne_iff_ne]; exact e1
      rw [if_neg e1] at HV
      clear e1
      go_wp2_with fail
      go_ret
      exact ⟨by rw [HV.out]; first | done | rfl, HB.out⟩
  · have b0 : (p.fr != q.fr) = true := by rw [bne_iff_ne]; exact e0
    rw [if_neg e0] at HV
    clear e0
    go_wp2_with fail
    go_ret
    exact ⟨by rw [HV.out]; first | done | rfl, HB.out⟩
/-- Whether a number is among them. -/
def hasI : List Int → Int → Bool
  | [], _ => false
  | a :: l, x => if a = x then true else hasI l x
set_option maxRecDepth 100000 in
set_option maxHeartbeats 4000000 in
theorem has_any10 (A : Option Addr) (n c : Nat) (l : List Int) (x : Int) (w : World) (hl : IRow w A n c l) (hn : n ≤ 100000) : Calls Tryz.prog 55 #[.slice A n c, .int .i64 x] w (SaysL (.bool (hasI l x)) w) := by
  have HL := Lib.hid hl; have HLN : Hid (l.length = n) := Lib.hid hl.len
  clear hl
  go_enter Tryz.func55, Tryz.ntmps55
  go_wp2_with fail
  go_loopw [5] (fun i wr => ∃ j : Nat, j ≤ n ∧ i = .int .i64 j ∧ Hid (hasI (l.drop j) x = hasI l x ∧ Below w.heap.size w wr)) (fun i _ => n - (intOf i).toNat)
  case atStart => exact ⟨0, Nat.zero_le _, rfl, Lib.hid ⟨rfl, Below.refl _ _⟩⟩
  case round =>
    obtain ⟨j, hj, rfl, HQ⟩ := hrel
    by_cases hlt : j < n
    · have hlt2 : (j : Int) < (n : Int) := by omega
      obtain ⟨b, off, hA, hc⟩ := IRow.cell (HL.out.later HQ.out.2) j hlt
      subst hA
      have HD : Hid (hasI (l.drop j) x = if l.getD j 0 = x then true else hasI (l.drop (j + 1)) x) := Lib.hid (by
        rw [List.drop_eq_getElem_cons (by rw [HLN.out]; exact hlt), hasI, List.getD_eq_getElem?_getD, List.getElem?_eq_getElem (by rw [HLN.out]; exact hlt)]; rfl)
      generalize l.getD j 0 = a at *
      by_cases hax : a = x
      · have b0 : (a == x) = true := by rw [hax]; simp
        have HT : Hid (hasI l x = true) := Lib.hid (by rw [← HQ.out.1, HD.out, if_pos hax])
        clear hax
        go_wp2_with fail
        go_ret
        exact ⟨by rw [HT.out]; rfl, HQ.out.2⟩
      · have b0 : (a == x) = false := by rw [beq_eq_false_iff_ne]; exact hax
        have HT : Hid (hasI (l.drop (j + 1)) x = hasI l x) := Lib.hid (by rw [← HQ.out.1, HD.out, if_neg hax])
        clear hax
        go_wp2_with fail
        exact ⟨⟨j + 1, hlt, by go_num, Lib.hid ⟨HT.out, HQ.out.2⟩⟩, by simp [intOf]; omega⟩
    · have hlt2 : ¬ (j : Int) < (n : Int) := by omega
      have HT : Hid (hasI l x = false) := Lib.hid (by rw [← HQ.out.1, List.drop_eq_nil_of_le (by rw [HLN.out]; omega)]; rfl)
      go_wp2_with fail
      go_ret
      exact ⟨by rw [HT.out]; rfl, HQ.out.2⟩
/-- The time of the revocation of a vouch, -1 without one. -/
def revokedS : List Stm → Stm → Int
  | [], _ => -1
  | x :: l, s => if x.author = s.author ∧ s.number < x.number ∧ x.kind = 2 ∧ x.a = s.number then x.time else revokedS l s
end Go.Proofs.YtnmpbjgccbnomaaGreat
/- Walks of the reference's Same and revoked of layer 10. -/
namespace Go.Proofs.YtnmpbjgccbnomaaGreat
open Go.RowKit
set_option maxRecDepth 100000 in
set_option maxHeartbeats 4000000 in
theorem revoked_any (A : Option Addr) (n c : Nat) (l : List Pl) (p : Pl) (w : World) (hl : LRow w A n c l) (hn : n ≤ 100000) : Calls Tryz.prog 83 #[.slice A n c, .agg p.arr] w (SaysL (.int .i64 (revokedS (l.map (·.s)) p.s)) w) := by
  have HNW := Lib.hid (one_new w (.cells p.arr 48))
  have HG : Hid ((w.alloc (.cells p.arr 48)).heap[w.heap.size]? = some (.cells p.arr 48 (0, 0))) := Lib.hid (heap_alloc_new _ _)
  have HL := Lib.hid (hl.later HNW.out); have HLN := Lib.hid hl.len
  clear hl
  go_enter Tryz.func83, Tryz.ntmps83
  go_wp2_with fail
  generalize (w.alloc (.cells p.arr 48)) = y0 at *
  have HGL : Hid (w.heap.size < y0.heap.size) := Lib.hid (Array.getElem?_eq_some_iff.1 HG.out).1
  go_loopw [5] (fun i wr => ∃ j : Nat, j ≤ n ∧ i = .int .i64 j ∧ Hid (revokedS ((l.drop j).map (·.s)) p.s = revokedS (l.map (·.s)) p.s ∧ Below y0.heap.size y0 wr)) (fun i _ => n - (intOf i).toNat)
  case atStart => exact ⟨0, Nat.zero_le _, rfl, Lib.hid ⟨rfl, Below.refl _ _⟩⟩
  case round =>
    obtain ⟨j, hj, rfl, HQ⟩ := hrel
    by_cases hlt : j < n
    · have hlt2 : (j : Int) < (n : Int) := by omega
      obtain ⟨b, off, hA, hc⟩ := (HL.out.later HQ.out.2).cells j hlt
      subst hA
      have HD : Hid (revokedS ((l.drop j).map (·.s)) p.s = if (l.getD j noPl).s.author = p.s.author ∧ p.s.number < (l.getD j noPl).s.number ∧ (l.getD j noPl).s.kind = 2 ∧ (l.getD j noPl).s.a = p.s.number then (l.getD j noPl).s.time else revokedS ((l.drop (j + 1)).map (·.s)) p.s) := Lib.hid (by
        rw [List.drop_eq_getElem_cons (by rw [HLN.out]; exact hlt), List.map_cons, revokedS, List.getD_eq_getElem?_getD, List.getElem?_eq_getElem (by rw [HLN.out]; exact hlt)]; rfl)
      have HC := Lib.hid hc
      clear hc
      generalize l.getD j noPl = q at *
      go_upto_region 5 with (first | (refine wpList_load_cells rfl 48 (.tmp 15) rfl b (off + j * 13) rfl q.arr _ Tryz.underlying48 rfl q.info HC.out ?_) | (refine wpList_store_new rfl 48 (.tmp 6) (.tmp 16) rfl 48 _ q.arr rfl rfl q.info rfl q.one ?_))
      have HN2 := Lib.hid (one_new wr (.cells q.arr 48))
      have HX : Hid ((wr.alloc (.cells q.arr 48)).heap[wr.heap.size]? = some (.cells q.arr 48 (0, 0))) := Lib.hid (heap_alloc_new _ _)
      have HB2 := Lib.hid (HQ.out.2.trans (HN2.out.mono HQ.out.2.size))
      have HQ1 := Lib.hid HQ.out.1
      clear HQ HN2 HC
      generalize wr.alloc (.cells q.arr 48) = x2 at *
      generalize wr.heap.size = g at *
      have HP : Hid (x2.heap[w.heap.size]? = some (.cells p.arr 48 (0, 0))) := Lib.hid ((HB2.out.block _ HGL.out).trans HG.out)
      have hp0 : x2.cell? ⟨w.heap.size, 0, none⟩ = some (.int .i64 p.s.author) := (cell_of_row _ _ 0 _ _ _ HP.out).trans rfl
      have hp1 : x2.cell? ⟨w.heap.size, 1, none⟩ = some (.int .i64 p.s.number) := (cell_of_row _ _ 1 _ _ _ HP.out).trans rfl
      have hq0 : x2.cell? ⟨g, 0, none⟩ = some (.int .i64 q.s.author) := (cell_of_row _ _ 0 _ _ _ HX.out).trans rfl
      have hq1 : x2.cell? ⟨g, 1, none⟩ = some (.int .i64 q.s.number) := (cell_of_row _ _ 1 _ _ _ HX.out).trans rfl
      have hq3 : x2.cell? ⟨g, 3, none⟩ = some (.int .i64 q.s.time) := (cell_of_row _ _ 3 _ _ _ HX.out).trans rfl
      have hq4 : x2.cell? ⟨g, 4, none⟩ = some (.int .i64 q.s.kind) := (cell_of_row _ _ 4 _ _ _ HX.out).trans rfl
      have hq5 : x2.cell? ⟨g, 5, none⟩ = some (.int .i64 q.s.a) := (cell_of_row _ _ 5 _ _ _ HX.out).trans rfl
      clear HP HX
      by_cases k0 : q.s.author = p.s.author
      · have b0 : (q.s.author == p.s.author) = true := by rw [k0]; simp
        have K0 := Lib.hid k0; clear k0
        by_cases k1 : p.s.number < q.s.number
        · have b1 : decide (q.s.number > p.s.number) = true := decide_eq_true k1
          have b1' : decide (p.s.number < q.s.number) = true := b1
          have K1 := Lib.hid k1; clear k1
          by_cases k2 : q.s.kind = 2
          · have b2 : (q.s.kind == 2) = true := by rw [k2]; rfl
            have K2 := Lib.hid k2; clear k2
            by_cases k3 : q.s.a = p.s.number
            · have b3 : (q.s.a == p.s.number) = true := by rw [k3]; simp
              have HT : Hid (revokedS (l.map (·.s)) p.s = q.s.time) := Lib.hid (by rw [← HQ1.out, HD.out, if_pos ⟨K0.out, K1.out, K2.out, k3⟩])
              clear k3
              go_wp2_with fail
              go_ret
              exact ⟨by rw [HT.out]; rfl, HNW.out.trans (HB2.out.mono HNW.out.size)⟩
            · have b3 : (q.s.a == p.s.number) = false := by rw [beq_eq_false_iff_ne]; exact k3
              have K3 := Lib.hid k3; clear k3
              have HT : Hid (revokedS ((l.drop (j + 1)).map (·.s)) p.s = revokedS (l.map (·.s)) p.s) := Lib.hid (by rw [← HQ1.out, HD.out, if_neg (fun h => K3.out h.2.2.2)])
              go_wp2_with fail
              exact ⟨⟨j + 1, hlt, by go_num, Lib.hid ⟨HT.out, HB2.out⟩⟩, by simp [intOf]; omega⟩
          · have b2 : (q.s.kind == 2) = false := by rw [beq_eq_false_iff_ne]; exact k2
            have K2 := Lib.hid k2; clear k2
            have HT : Hid (revokedS ((l.drop (j + 1)).map (·.s)) p.s = revokedS (l.map (·.s)) p.s) := Lib.hid (by rw [← HQ1.out, HD.out, if_neg (fun h => K2.out h.2.2.1)])
            go_wp2_with fail
            exact ⟨⟨j + 1, hlt, by go_num, Lib.hid ⟨HT.out, HB2.out⟩⟩, by simp [intOf]; omega⟩
        · have b1 : decide (q.s.number > p.s.number) = false := decide_eq_false k1
          have b1' : decide (p.s.number < q.s.number) = false := b1
          have K1 := Lib.hid k1; clear k1
          have HT : Hid (revokedS ((l.drop (j + 1)).map (·.s)) p.s = revokedS (l.map (·.s)) p.s) := Lib.hid (by rw [← HQ1.out, HD.out, if_neg (fun h => K1.out h.2.1)])
          go_wp2_with fail
          exact ⟨⟨j + 1, hlt, by go_num, Lib.hid ⟨HT.out, HB2.out⟩⟩, by simp [intOf]; omega⟩
      · have b0 : (q.s.author == p.s.author) = false := by rw [beq_eq_false_iff_ne]; exact k0
        have K0 := Lib.hid k0; clear k0
        have HT : Hid (revokedS ((l.drop (j + 1)).map (·.s)) p.s = revokedS (l.map (·.s)) p.s) := Lib.hid (by rw [← HQ1.out, HD.out, if_neg (fun h => K0.out h.1)])
        go_wp2_with fail
        exact ⟨⟨j + 1, hlt, by go_num, Lib.hid ⟨HT.out, HB2.out⟩⟩, by simp [intOf]; omega⟩
    · have hlt2 : ¬ (j : Int) < (n : Int) := by omega
      have HT : Hid (revokedS (l.map (·.s)) p.s = -1) := Lib.hid (by rw [← HQ.out.1, List.drop_eq_nil_of_le (by rw [HLN.out]; omega)]; rfl)
      go_wp2_with fail
      go_ret
      exact ⟨by rw [HT.out]; rfl, HNW.out.trans (HQ.out.2.mono HNW.out.size)⟩
end Go.Proofs.YtnmpbjgccbnomaaGreat
/- The walk of the reference's Gone. -/
namespace Go.Proofs.YtnmpbjgccbnomaaGreat
open Go.RowKit
/-- Whether an author has left by a time. -/
def leftB (k tm : Int) (s : Stm) : Bool := decide (s.author = k) && decide (s.kind = 3) && decide (s.time ≤ tm)
def isGoneB (l : List Stm) (tm k : Int) : Bool := l.any (leftB k tm)
def goneUp (l : List Stm) (tm : Int) : Nat → List Int
  | 0 => []
  | j + 1 => goneUp l tm j ++ (if isGoneB l tm (j : Int) then [(j : Int)] else [])
def goneS (l : List Stm) (tm : Int) : List Int := goneUp l tm 64
theorem goneUp_len (l : List Stm) (tm : Int) : ∀ j, (goneUp l tm j).length ≤ j
  | 0 => Nat.le_refl _
  | j + 1 => by
    have h := goneUp_len l tm j
    unfold goneUp
    rw [List.length_append]
    split
    · simp only [List.length_cons, List.length_nil]; omega
    · simp only [List.length_nil]; omega
/-- A call that gives a list of numbers. -/
def GivesI (w : World) (l : List Int) (e : Ending) (w' : World) : Prop := ∃ A2 n2 c2, e = .returned (.slice A2 n2 c2) ∧ IRow w' A2 n2 c2 l ∧ Below w.heap.size w w'
theorem any_snoc (f : Stm → Bool) (l : List Pl) (j : Nat) (h : j < l.length) : ((l.take (j + 1)).map (·.s)).any f = (((l.take j).map (·.s)).any f || f (l.getD j noPl).s) := by
  rw [take_snocP l j h, List.map_append, List.any_append]
  simp
/-- .. in memory of its own. -/
def GivesIO (w : World) (l : List Int) (e : Ending) (w' : World) : Prop := ∃ A2 c2, e = .returned (.slice A2 l.length c2) ∧ w'.ownsRow w.heap.size 3 1 (.slice A2 l.length c2) l.length (intsV l) ∧ Below w.heap.size w w'
theorem GivesIO.weak {w w' : World} {l : List Int} {e : Ending} (h : GivesIO w l e w') : GivesI w l e w' := by
  obtain ⟨A2, c2, h1, h2, h3⟩ := h
  obtain ⟨A3, c3, hv, hr⟩ := Row.of_own h2
  injection hv with e1 _ e2
  subst e1 e2
  exact ⟨_, _, _, h1, hr, h3⟩
set_option maxRecDepth 100000 in
set_option maxHeartbeats 4000000 in
theorem gone_own (A : Option Addr) (n c : Nat) (l : List Pl) (tm : Int) (w : World) (hl : LRow w A n c l) (hn : n ≤ 100000) : Calls Tryz.prog 30 #[.slice A n c, .int .i64 tm] w (GivesIO w (goneS (l.map (·.s)) tm)) := by
  have HL := Lib.hid hl; have HLN := Lib.hid hl.len
  obtain ⟨GS, hgs⟩ : ∃ GS, goneS (l.map (·.s)) tm = GS := ⟨_, rfl⟩
  rw [hgs]
  unfold goneS at hgs
  have HGS := Lib.hid hgs
  clear hl hgs
  go_enter Tryz.func30, Tryz.ntmps30
  go_wp2_with fail
  go_loopw [5, 6] (fun v i wr => ∃ j : Nat, j ≤ 64 ∧ i = .int .i64 j ∧ Hid (wr.ownsRow w.heap.size 3 1 v (goneUp (l.map (·.s)) tm j).length (intsV (goneUp (l.map (·.s)) tm j)) ∧ Below w.heap.size w wr)) (fun _ i _ => 64 - (intOf i).toNat)
  case atStart => exact ⟨0, Nat.zero_le _, rfl, Lib.hid ⟨World.ownsRow_nil _ _ _ _, Below.refl _ _⟩⟩
  case round =>
    obtain ⟨j, hj, rfl, HQ⟩ := hrel
    obtain ⟨A1, c1, hv, -⟩ := Row.of_own HQ.out.1
    subst hv
    by_cases hlt : j < 64
    · have hlt2 : (j : Int) < 64 := by omega
      have HO := Lib.hid HQ.out.1; have HB := Lib.hid HQ.out.2
      have HUP : Hid (goneUp (l.map (·.s)) tm (j + 1) = goneUp (l.map (·.s)) tm j ++ (if isGoneB (l.map (·.s)) tm (j : Int) then [(j : Int)] else [])) := Lib.hid rfl
      have HGL : Hid ((goneUp (l.map (·.s)) tm j).length ≤ 64) := Lib.hid (Nat.le_trans (goneUp_len _ _ j) hj)
      generalize hgu : goneUp (l.map (·.s)) tm j = U at *
      clear hgu HQ
      have HISG : Hid (isGoneB (l.map (·.s)) tm (j : Int) = (l.map (·.s)).any (leftB (j : Int) tm)) := Lib.hid rfl
      go_wp2_with fail
      go_loopw [7, 8] (fun i7 i8 wq => ∃ (i : Nat) (bb : Bool), i ≤ n ∧ i8 = .int .i64 i ∧ i7 = .bool bb ∧ Hid (bb = ((l.take i).map (·.s)).any (leftB (j : Int) tm)) ∧ Hid (wq.ownsRow w.heap.size 3 1 (.slice A1 U.length c1) U.length (intsV U) ∧ Below w.heap.size w wq)) (fun _ i8 _ => n - (intOf i8).toNat)
      case atStart => exact ⟨0, false, Nat.zero_le _, rfl, rfl, Lib.hid rfl, Lib.hid ⟨HO.out, HB.out⟩⟩
      case round =>
        clear HO HB
        obtain ⟨i, bb, hi, rfl, rfl, HBB, HQ⟩ := hrel
        by_cases hil : i < n
        · have hil2 : (i : Int) < (n : Int) := by omega
          have HST : Hid (((l.take (i + 1)).map (·.s)).any (leftB (j : Int) tm) = (bb || leftB (j : Int) tm (l.getD i noPl).s)) := Lib.hid (by rw [any_snoc _ _ _ (by rw [HLN.out]; exact hil), ← HBB.out])
          clear HBB
          obtain ⟨b, off, hA, hc⟩ := (HL.out.later HQ.out.2).cells i hil
          subst hA
          have hc0 : wr.cell? ⟨b, off + i * 13, none⟩ = some (.int .i64 (l.getD i noPl).s.author) := hc 0 (by rw [Pl.size]; decide)
          have hc3 : wr.cell? ⟨b, off + i * 13 + 3, none⟩ = some (.int .i64 (l.getD i noPl).s.time) := hc 3 (by rw [Pl.size]; decide)
          have hc4 : wr.cell? ⟨b, off + i * 13 + 4, none⟩ = some (.int .i64 (l.getD i noPl).s.kind) := hc 4 (by rw [Pl.size]; decide)
          have HLB : Hid (leftB (j : Int) tm (l.getD i noPl).s = (decide ((l.getD i noPl).s.author = (j : Int)) && decide ((l.getD i noPl).s.kind = 3) && decide ((l.getD i noPl).s.time ≤ tm))) := Lib.hid rfl
          clear hc
          generalize leftB (j : Int) tm (l.getD i noPl).s = lb at *
          generalize (l.getD i noPl).s.author = au at *
          generalize (l.getD i noPl).s.time = ti at *
          generalize (l.getD i noPl).s.kind = kd at *
          cases bb
          · by_cases k0 : au = (j : Int)
            · have b0 : (au == (j : Int)) = true := by rw [k0]; simp
              have d0 : decide (au = (j : Int)) = true := decide_eq_true k0
              have D0 := Lib.hid d0; clear d0
              clear k0
              by_cases k1 : kd = 3
              · have b1 : (kd == 3) = true := by rw [k1]; rfl
                have D1 : Hid (decide (kd = 3) = true) := Lib.hid (decide_eq_true k1)
                clear k1
                by_cases k2 : ti ≤ tm
                · have b2 : decide (ti ≤ tm) = true := decide_eq_true k2
                  have D2 := Lib.hid b2
                  have HN : Hid (((l.take (i + 1)).map (·.s)).any (leftB (j : Int) tm) = true) := Lib.hid (by rw [HST.out]; rw [HLB.out, D0.out, D1.out, D2.out]; rfl)
                  go_wp2_with fail
                  exact ⟨⟨i + 1, true, by omega, by go_num, rfl, Lib.hid HN.out.symm, HQ⟩, by simp [intOf]; omega⟩
                · have b2 : decide (ti ≤ tm) = false := decide_eq_false k2
                  have D2 := Lib.hid b2
                  have HN : Hid (((l.take (i + 1)).map (·.s)).any (leftB (j : Int) tm) = false) := Lib.hid (by rw [HST.out]; rw [HLB.out, D0.out, D1.out, D2.out]; rfl)
                  go_wp2_with fail
                  exact ⟨⟨i + 1, false, by omega, by go_num, rfl, Lib.hid HN.out.symm, HQ⟩, by simp [intOf]; omega⟩
              · have b1 : (kd == 3) = false := by rw [beq_eq_false_iff_ne]; exact k1
                have D1 : Hid (decide (kd = 3) = false) := Lib.hid (decide_eq_false k1)
                clear k1
                have HN : Hid (((l.take (i + 1)).map (·.s)).any (leftB (j : Int) tm) = false) := Lib.hid (by rw [HST.out]; rw [HLB.out, D0.out, D1.out]; rfl)
                go_wp2_with fail
                exact ⟨⟨i + 1, false, by omega, by go_num, rfl, Lib.hid HN.out.symm, HQ⟩, by simp [intOf]; omega⟩
            · have b0 : (au == (j : Int)) = false := by rw [beq_eq_false_iff_ne]; exact k0
              have D0 : Hid (decide (au = (j : Int)) = false) := Lib.hid (decide_eq_false k0)
              clear k0
              have HN : Hid (((l.take (i + 1)).map (·.s)).any (leftB (j : Int) tm) = false) := Lib.hid (by rw [HST.out]; rw [HLB.out, D0.out]; rfl)
              go_wp2_with fail
              exact ⟨⟨i + 1, false, by omega, by go_num, rfl, Lib.hid HN.out.symm, HQ⟩, by simp [intOf]; omega⟩
          · skip
            have HN : Hid (((l.take (i + 1)).map (·.s)).any (leftB (j : Int) tm) = true) := Lib.hid (by rw [HST.out]; rfl)
            go_wp2_with fail
            exact ⟨⟨i + 1, true, by omega, by go_num, rfl, Lib.hid HN.out.symm, HQ⟩, by simp [intOf]; omega⟩
        · have hil2 : ¬ (i : Int) < (n : Int) := by omega
          have HBE : Hid (bb = isGoneB (l.map (·.s)) tm (j : Int)) := Lib.hid (by rw [HBB.out, HISG.out, List.take_of_length_le (by rw [HLN.out]; omega)])
          have HO := Lib.hid HQ.out.1; have HB := Lib.hid HQ.out.2
          clear HBB HQ
          have hgl := HGL.out
          cases bb
          · have HE : Hid (goneUp (l.map (·.s)) tm (j + 1) = U) := Lib.hid (by rw [HUP.out, ← HBE.out]; simp)
            go_wp2_with fail
            exact ⟨⟨j + 1, by omega, by go_num, Lib.hid (by rw [HE.out]; exact ⟨HO.out, HB.out⟩)⟩, by simp [intOf]; omega⟩
          · have HE : Hid (goneUp (l.map (·.s)) tm (j + 1) = U ++ [(j : Int)]) := Lib.hid (by rw [HUP.out, ← HBE.out]; rfl)
            have hsz : w.heap.size ≤ wr.heap.size := HB.out.size
            go_wp2_with (at_builtin; go_must (refine wpList_app_new wr rfl (.tmp 47) (.tmp 49) 22 3 rfl w.heap.size Tryz.underlying22 i64_info rfl _ U.length (intsV U) HO.out rfl 1 #[.int .i64 (j : Int)] rfl (by simp [Value.oneCell']) rfl rfl (by unfold maxLen; omega) (by omega) hsz ?_); intro v3 w3 ho3 hb3; have HO3 := Lib.hid ho3; have HB3 := Lib.hid (HB.out.trans hb3); clear ho3 hb3)
            exact ⟨⟨j + 1, by omega, by go_num, Lib.hid (by rw [HE.out, List.length_append, intsV_app]; exact ⟨HO3.out, HB3.out⟩)⟩, by simp [intOf]; omega⟩
    · have hlt2 : ¬ (j : Int) < 64 := by omega
      have HE : Hid (j = 64) := by unfold Hid; omega
      have how := HQ.out.1
      have HB3 := Lib.hid HQ.out.2
      have HGE : Hid (goneUp (l.map (·.s)) tm j = GS) := Lib.hid (by rw [HE.out]; exact HGS.out)
      clear HQ
      rw [HGE.out] at how ⊢
      have HR3 := Lib.hid how; clear how
      go_wp2_with fail
      go_ret
      exact ⟨_, _, rfl, HR3.out, HB3.out⟩
theorem gone_any (A : Option Addr) (n c : Nat) (l : List Pl) (tm : Int) (w : World) (hl : LRow w A n c l) (hn : n ≤ 100000) : Calls Tryz.prog 30 #[.slice A n c, .int .i64 tm] w (GivesI w (goneS (l.map (·.s)) tm)) :=
  (gone_own A n c l tm w hl hn).mono fun _ _ h => h.weak
end Go.Proofs.YtnmpbjgccbnomaaGreat
