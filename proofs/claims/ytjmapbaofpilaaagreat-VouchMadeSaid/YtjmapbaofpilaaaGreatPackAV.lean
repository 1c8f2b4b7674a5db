import Derived.Test.YtjmapbaofpilaaaGreatPackAU
import Derived.Test.YtjmapbaofpilaaaGreatPackAC
import Derived.Test.YtjmapbaofpilaaaGreatPackAB
import Derived.WideKeyRuns
import Derived.Laws.StructEq
import Derived.Shelf.SlSortCmp.WholeK
import Derived.Shelf.SlSortCmp.NoneTotal
/- The walk of vouch's compare, and its order. -/
namespace Go.Proofs.YtjmapbaofpilaaaGreat
open Go.RowKit
/-- The order of vouches: less than 0, 0, or more. -/
def cmpVo (a b : Vou) : Int := firstNZ [Lib.compareInt a.fr b.fr, Lib.compareInt a.tu b.tu, Lib.compareInt a.nu b.nu]
theorem compareInt_three (x y : Int) : (x < y ∧ Lib.compareInt x y = -1) ∨ (x = y ∧ Lib.compareInt x y = 0) ∨ (y < x ∧ Lib.compareInt x y = 1) := by
  unfold Lib.compareInt
  (repeat' split) <;> omega
theorem cmpVo_iff (a b : Vou) : cmpVo a b < 0 ↔ ltV a b := by
  unfold cmpVo firstNZ firstNZ firstNZ firstNZ ltV
  rcases compareInt_three a.fr b.fr with ⟨h, e⟩ | ⟨h, e⟩ | ⟨h, e⟩
  · rw [e, if_neg (by decide)]; omega
  · rw [e, if_pos rfl]
    rcases compareInt_three a.tu b.tu with ⟨k, f⟩ | ⟨k, f⟩ | ⟨k, f⟩
    · rw [f, if_neg (by decide)]; omega
    · rw [f, if_pos rfl]
      rcases compareInt_three a.nu b.nu with ⟨r, g⟩ | ⟨r, g⟩ | ⟨r, g⟩
      · rw [g, if_neg (by decide)]; omega
      · rw [g, if_pos rfl]; omega
      · rw [g, if_neg (by decide)]; omega
    · rw [f, if_neg (by decide)]; omega
  · rw [e, if_neg (by decide)]; omega
theorem vou_cells7 {w : World} {g : Nat} {p : Vou} {t : TypeId} {fr : Nat × Nat} (h : w.heap[g]? = some (.cells p.arr t fr)) :
    w.cell? ⟨g, 0, none⟩ = some (.int .i64 p.fr) ∧ w.cell? ⟨g, 1, none⟩ = some (.int .i64 p.tu) ∧ w.cell? ⟨g, 2, none⟩ = some (.int .i64 p.lv) ∧ w.cell? ⟨g, 3, none⟩ = some (.int .i64 p.nu) ∧ w.cell? ⟨g, 4, none⟩ = some (.int .i64 p.tm) ∧ w.cell? ⟨g, 5, none⟩ = some (.int .i64 p.en) ∧ w.cell? ⟨g, 6, none⟩ = some (.int .i64 p.rv) :=
  ⟨(cell_of_row _ _ 0 _ _ _ h).trans rfl, (cell_of_row _ _ 1 _ _ _ h).trans rfl, (cell_of_row _ _ 2 _ _ _ h).trans rfl, (cell_of_row _ _ 3 _ _ _ h).trans rfl, (cell_of_row _ _ 4 _ _ _ h).trans rfl, (cell_of_row _ _ 5 _ _ _ h).trans rfl, (cell_of_row _ _ 6 _ _ _ h).trans rfl⟩
theorem vou_futs {F : World → World → Prop} (hr : ∀ w, F w w) {W : World} {g : Nat} {p : Vou} {t : TypeId} {fr : Nat × Nat} (hF : ∀ w', F W w' → w'.heap[g]? = W.heap[g]?) (h : W.heap[g]? = some (.cells p.arr t fr)) :
    (∀ x, (fut F W x).cell? ⟨g, 0, none⟩ = some (.int .i64 p.fr)) ∧ (∀ x, (fut F W x).cell? ⟨g, 1, none⟩ = some (.int .i64 p.tu)) ∧ (∀ x, (fut F W x).cell? ⟨g, 2, none⟩ = some (.int .i64 p.lv)) ∧ (∀ x, (fut F W x).cell? ⟨g, 3, none⟩ = some (.int .i64 p.nu)) ∧ (∀ x, (fut F W x).cell? ⟨g, 4, none⟩ = some (.int .i64 p.tm)) ∧ (∀ x, (fut F W x).cell? ⟨g, 5, none⟩ = some (.int .i64 p.en)) ∧ (∀ x, (fut F W x).cell? ⟨g, 6, none⟩ = some (.int .i64 p.rv)) := by
  have h2 := fun x => vou_cells7 ((hF _ (fut_ok hr W x)).trans h)
  exact ⟨fun x => (h2 x).1, fun x => (h2 x).2.1, fun x => (h2 x).2.2.1, fun x => (h2 x).2.2.2.1, fun x => (h2 x).2.2.2.2.1, fun x => (h2 x).2.2.2.2.2.1, fun x => (h2 x).2.2.2.2.2.2⟩
set_option maxRecDepth 100000 in
set_option maxHeartbeats 1000000 in
theorem compareV_any (p q : Vou) (w : World) : Calls Tryz.prog 30 #[.agg p.arr, .agg q.arr] w fun e w' => e = .returned (.int .i64 (cmpVo p q)) ∧ Laid w w' := by
  have HB : Hid (Laid w (((w.alloc (.cells p.arr 40)).alloc (.cells q.arr 40)).drew)) := Lib.hid (((Laid.alloc w _).trans (Laid.alloc _ _)).trans (Laid.drew _))
  have HX : Hid ((((w.alloc (.cells p.arr 40)).alloc (.cells q.arr 40)).drew).heap[w.heap.size]? = some (.cells p.arr 40 (0, 0))) := Lib.hid ((Below.heap_alloc _ _ _ (by simp)).trans (heap_alloc_new _ _))
  have HY : Hid ((((w.alloc (.cells p.arr 40)).alloc (.cells q.arr 40)).drew).heap[w.heap.size + 1]? = some (.cells q.arr 40 (0, 0))) := Lib.hid (heap_alloc2_new _ _ _)
  unfold cmpVo
  go_enter Tryz.func30, Tryz.ntmps30
  go_wp2_with fail
  refine wp_region_grow (by kernel_rfl) Laid Laid.refl (fun _ _ _ => Laid.trans) [17] [([0, 1, 2, 3, 5, 6, 7, 8, 10, 11, 12, 13], 4), ([], 9), ([], 14), ([], 15), ([], 16)] (by kernel_rfl) (by kernel_rfl) (by kernel_rfl) ?_
  simp only [List.map_cons, List.map_nil, pick, List.getD_cons_zero, List.getD_cons_succ]
  generalize (((w.alloc (.cells p.arr 40)).alloc (.cells q.arr 40)).drew) = w1 at HB HX HY ⊢
  have hlx : w.heap.size < w1.heap.size := (Array.getElem?_eq_some_iff.1 HX.out).1
  have hly : w.heap.size + 1 < w1.heap.size := (Array.getElem?_eq_some_iff.1 HY.out).1
  obtain ⟨hf0, hf1, hf2, hf3, hf4, hf5, hf6⟩ := vou_futs (F := Laid) Laid.refl (p := p) (W := w1) (fun w' h => h.1.block _ hlx) HX.out
  obtain ⟨hg0, hg1, hg2, hg3, hg4, hg5, hg6⟩ := vou_futs (F := Laid) Laid.refl (p := q) (W := w1) (fun w' h => h.1.block _ hly) HY.out
  obtain ⟨x0, x1, x2, x3, x4, x5, x6⟩ := p
  obtain ⟨y0, y1, y2, y3, y4, y5, y6⟩ := q
  simp only at hf0 hf1 hf2 hf3 hf4 hf5 hf6 hg0 hg1 hg2 hg3 hg4 hg5 hg6 ⊢
  refine wpGrow_cons ?_
  repeat (go_big_quiet_step (fail))
  refine wpQuiet_nil ?_
  clear hf0 hf1 hf2 hf3 hf4 hf5 hf6 hg0 hg1 hg2 hg3 hg4 hg5 hg6 HX HY hlx hly
  go_wp2_with fail
  refine (cmpInt_any _ _ _).mono ?_
  rintro e w2 ⟨rfl, rfl⟩
  go_wp2_with fail
  refine pieceEnd_normal ⟨Laid.refl _, ?_⟩
  refine wpGrow_cons ?_
  refine wpQuiet_nil ?_
  go_wp2_with fail
  refine (cmpInt_any _ _ _).mono ?_
  rintro e w3 ⟨rfl, rfl⟩
  go_wp2_with fail
  refine pieceEnd_normal ⟨Laid.refl _, ?_⟩
  refine wpGrow_cons ?_
  refine wpQuiet_nil ?_
  go_wp2_with fail
  refine (cmpInt_any _ _ _).mono ?_
  rintro e w4 ⟨rfl, rfl⟩
  go_wp2_with fail
  refine pieceEnd_normal ⟨Laid.refl _, ?_⟩
  generalize hr1 : Lib.compareInt x0 y0 = r1
  generalize hr2 : Lib.compareInt x1 y1 = r2
  generalize hr3 : Lib.compareInt x3 y3 = r3
  have HR := Lib.hid (And.intro hr1 (And.intro hr2 hr3)); clear hr1 hr2 hr3
  refine wpGrow_cons ?_
  refine wpQuiet_nil ?_
  go_wp2_with fail
  refine pieceEnd_normal ⟨Laid.alloc _ _, ?_⟩
  have HI := Lib.hid (show IRow (w4.alloc (.cells #[.int .i64 r1, .int .i64 r2, .int .i64 r3] 3)) (some ⟨w4.heap.size, 0, none⟩) 3 3 [r1, r2, r3] from Row.of_block (heap_alloc_new _ _) rfl)
  have HB2 := Lib.hid (HB.out.trans (Laid.alloc w4 (.cells #[.int .i64 r1, .int .i64 r2, .int .i64 r3] 3)))
  refine wpGrow_cons ?_
  refine wpQuiet_nil ?_
  go_wp2_with fail
  refine (or_any _ _ _ _ _ HI.out (by omega)).mono ?_
  rintro e w5 ⟨rfl, rfl⟩
  go_wp2_with fail
  refine pieceEnd_normal ⟨Laid.refl _, ?_⟩
  refine wpGrow_nil ?_
  repeat (go_big_quiet_step (fail))
  refine wpQuiet_nil ?_
  go_wp2_with fail
  go_ret
  exact ⟨by rw [HR.out.1, HR.out.2.1, HR.out.2.2]; rfl, HB2.out⟩
end Go.Proofs.YtjmapbaofpilaaaGreat
/- The walks of vouch's holds and of slices.Contains over numbers. -/
namespace Go.Proofs.YtjmapbaofpilaaaGreat
open Go.RowKit
set_option maxRecDepth 100000 in
set_option maxHeartbeats 4000000 in
theorem vHolds_any (p : Vou) (tm : Int) (w : World) : Calls Tryz.prog 31 #[.agg p.arr, .int .i64 tm] w (SaysL (.bool (holdsV p tm)) w) := by
  have HN := Lib.hid (one_new w (.cells p.arr 40))
  have HX : Hid ((w.alloc (.cells p.arr 40)).heap[w.heap.size]? = some (.cells p.arr 40 (0, 0))) := Lib.hid (heap_alloc_new _ _)
  have HV : Hid (holdsV p tm = (decide (p.tm ≤ tm) && (decide (tm < p.en) && (decide (p.rv = -1) || decide (tm < p.rv))))) := Lib.hid rfl
  generalize holdsV p tm = hb at *
  go_enter Tryz.func31, Tryz.ntmps31
  go_upto_region 1 with fail
  generalize w.alloc (.cells p.arr 40) = y at *
  obtain ⟨-, -, -, -, hc4, hc5, hc6⟩ := vou_cells7 HX.out
  by_cases k0 : p.tm ≤ tm
  · have b0 : decide (p.tm ≤ tm) = true := decide_eq_true k0
    have K0 := Lib.hid b0; clear k0
    by_cases k1 : tm < p.en
    · have b1 : decide (tm < p.en) = true := decide_eq_true k1
      have K1 := Lib.hid b1; clear k1
      by_cases k2 : p.rv = -1
      · have b2 : (p.rv == -1) = true := by rw [k2]; rfl
        have HE : Hid (hb = true) := Lib.hid (by rw [HV.out, K0.out, K1.out, decide_eq_true k2]; rfl)
        clear k2
        go_wp2_with fail
        go_ret
        exact ⟨by rw [HE.out]; rfl, HN.out⟩
      · have b2 : (p.rv == -1) = false := by rw [beq_eq_false_iff_ne]; exact k2
        have K2 : Hid (decide (p.rv = -1) = false) := Lib.hid (decide_eq_false k2)
        clear k2
        by_cases k3 : tm < p.rv
        · have b3 : decide (tm < p.rv) = true := decide_eq_true k3
          have K3 := Lib.hid b3; clear k3
          have HE : Hid (hb = true) := Lib.hid (by rw [HV.out, K0.out, K1.out, K2.out, K3.out]; rfl)
          go_wp2_with fail
          go_ret
          exact ⟨by rw [HE.out]; rfl, HN.out⟩
        · have b3 : decide (tm < p.rv) = false := decide_eq_false k3
          have K3 := Lib.hid b3; clear k3
          have HE : Hid (hb = false) := Lib.hid (by rw [HV.out, K0.out, K1.out, K2.out, K3.out]; rfl)
          go_wp2_with fail
          go_ret
          exact ⟨by rw [HE.out]; rfl, HN.out⟩
    · have b1 : decide (tm < p.en) = false := decide_eq_false k1
      have K1 := Lib.hid b1; clear k1
      have HE : Hid (hb = false) := Lib.hid (by rw [HV.out, K0.out, K1.out]; rfl)
      go_wp2_with fail
      go_ret
      exact ⟨by rw [HE.out]; rfl, HN.out⟩
  · have b0 : decide (p.tm ≤ tm) = false := decide_eq_false k0
    have K0 := Lib.hid b0; clear k0
    have HE : Hid (hb = false) := Lib.hid (by rw [HV.out, K0.out]; rfl)
    go_wp2_with fail
    go_ret
    exact ⟨by rw [HE.out]; rfl, HN.out⟩
set_option maxRecDepth 100000 in
set_option maxHeartbeats 4000000 in
theorem indexI_any (A : Option Addr) (n c : Nat) (l : List Int) (x : Int) (w : World) (hl : IRow w A n c l) (hn : n ≤ 100000) : Calls Tryz.prog 53 #[.slice A n c, .int .i64 x] w fun e w' => (∃ r : Int, e = .returned (.int .i64 r) ∧ decide (0 ≤ r) = hasI l x) ∧ Below w.heap.size w w' := by
  have HL := Lib.hid hl; have HLN : Hid (l.length = n) := Lib.hid hl.len
  clear hl
  go_enter Tryz.func53, Tryz.ntmps53
  go_wp2_with fail
  go_loopw [8] (fun i wr => ∃ j : Nat, j ≤ n ∧ i = .int .i64 j ∧ Hid (hasI (l.drop j) x = hasI l x ∧ Below w.heap.size w wr)) (fun i _ => n - (intOf i).toNat)
  case atStart => exact ⟨0, Nat.zero_le _, rfl, Lib.hid ⟨rfl, Below.refl _ _⟩⟩
  case round =>
    obtain ⟨j, hj, rfl, HQ⟩ := hrel
    by_cases hlt : j < n
    · have hlt2 : (j : Int) < (n : Int) := by omega
      obtain ⟨b, off, hA, hc⟩ := IRow.cell (HL.out.later HQ.out.2) j hlt
      subst hA
      have HD : Hid (hasI (l.drop j) x = if l.getD j 0 = x then true else hasI (l.drop (j + 1)) x) := Lib.hid (by
        rw [List.drop_eq_getElem_cons (by rw [HLN.out]; exact hlt), hasI, List.getD_eq_getElem?_getD, List.getElem?_eq_getElem (by rw [HLN.out]; exact hlt)]; rfl)
      generalize l.getD j 0 = a at *
      by_cases hax : x = a
      · have b0 : (x == a) = true := by rw [hax]; simp
        have HT : Hid (hasI l x = true) := Lib.hid (by rw [← HQ.out.1, HD.out, if_pos hax.symm])
        clear hax
        go_wp2_with fail
        go_ret
        exact ⟨⟨_, rfl, by rw [HT.out]; exact decide_eq_true (by omega)⟩, HQ.out.2⟩
      · have b0 : (x == a) = false := by rw [beq_eq_false_iff_ne]; exact hax
        have HT : Hid (hasI (l.drop (j + 1)) x = hasI l x) := Lib.hid (by rw [← HQ.out.1, HD.out, if_neg (fun q => hax q.symm)])
        clear hax
        go_wp2_with fail
        exact ⟨⟨j + 1, hlt, by go_num, Lib.hid ⟨HT.out, HQ.out.2⟩⟩, by simp [intOf]; omega⟩
    · have hlt2 : ¬ (j : Int) < (n : Int) := by omega
      have HT : Hid (hasI l x = false) := Lib.hid (by rw [← HQ.out.1, List.drop_eq_nil_of_le (by rw [HLN.out]; omega)]; rfl)
      go_wp2_with fail
      go_ret
      exact ⟨⟨_, rfl, by rw [HT.out]; decide⟩, HQ.out.2⟩
set_option maxRecDepth 100000 in
theorem containsI_any (A : Option Addr) (n c : Nat) (l : List Int) (x : Int) (w : World) (hl : IRow w A n c l) (hn : n ≤ 100000) : Calls Tryz.prog 32 #[.slice A n c, .int .i64 x] w (SaysL (.bool (hasI l x)) w) := by
  have HI := Lib.hid (indexI_any A n c l x w hl hn)
  clear hl
  go_enter Tryz.func32, Tryz.ntmps32
  go_wp2_with fail
  refine HI.out.mono ?_
  rintro e w1 ⟨⟨r, rfl, hr⟩, hb⟩
  have HR : Hid (decide (r ≥ 0) = hasI l x) := Lib.hid hr
  have HB := Lib.hid hb
  clear hr hb HI
  go_wp2_with fail
  go_ret
  exact ⟨by rw [← HR.out]; rfl, HB.out⟩
end Go.Proofs.YtjmapbaofpilaaaGreat
/- Maps whose keys are places (an author, a number) and whose elements are numbers, as the heap holds them: made, filled, looked into. -/
namespace Go.Proofs.YtjmapbaofpilaaaGreat
open Go.RowKit Go Go.ChangeMaps
def pkV (k : Int × Int) : Value := .agg #[.int .i64 k.1, .int .i64 k.2]
/-- The entries that hold some pairs, laid in their order, none taken away. -/
def pents : List ((Int × Int) × Int) → Nat → List MapEntry
  | [], _ => []
  | p :: l, i => ⟨pkV p.1, .int .i64 p.2, i⟩ :: pents l (i + 1)
theorem pents_app (l m : List ((Int × Int) × Int)) : ∀ i, pents (l ++ m) i = pents l i ++ pents m (i + l.length) := by
  induction l with
  | nil => intro i; rfl
  | cons p l ih =>
    intro i
    simp only [List.cons_append, pents, ih (i + 1), List.length_cons]
    rw [show i + 1 + l.length = i + (l.length + 1) by omega]
/-- The map in block b holds the pairs l. -/
def PMap (w : World) (b : Nat) (l : List ((Int × Int) × Int)) : Prop := w.heap[b]? = some (.map (pents l 0).toArray l.length)
theorem PMap.lt {w : World} {b : Nat} {l : List ((Int × Int) × Int)} (h : PMap w b l) : b < w.heap.size := (Array.getElem?_eq_some_iff.1 h).1
theorem PMap.later {w w' : World} {b : Nat} {l : List ((Int × Int) × Int)} (h : PMap w b l) (hb : Below w.heap.size w w') : PMap w' b l := (hb.block b h.lt).trans h
theorem pmap_new (w : World) : PMap (w.alloc (.map #[] 0)) w.heap.size [] := heap_alloc_new w _
/-- What stands first at a key. -/
def lookP : List ((Int × Int) × Int) → Int × Int → Option Int
  | [], _ => none
  | p :: l, k => if p.1 = k then some p.2 else lookP l k
theorem lookP_app (l m : List ((Int × Int) × Int)) (k : Int × Int) : lookP (l ++ m) k = (lookP l k).or (lookP m k) := by
  induction l with
  | nil => rfl
  | cons p l ih =>
    show (if p.1 = k then some p.2 else lookP (l ++ m) k) = (if p.1 = k then some p.2 else lookP l k).or _
    split
    · rfl
    · exact ih
set_option maxRecDepth 100000 in
theorem run_eqPlace (a b : Int × Int) (w : World) : (Op.equal 66 (pkV a) (pkV b)).run Tryz.prog w = .ok (decide (a = b)) w := by
  obtain ⟨a1, a2⟩ := a
  obtain ⟨b1, b2⟩ := b
  have hs : Tryz.prog.stoodInHeld 66 = false := by kernel_rfl
  have hi := Tryz.underlying3
  unfold Op.equal pkV
  rw [show Op.maxDepth = 9998 + 1 + 1 from rfl, run_equalIn_agg w (9998 + 1) 66 _ _ (by kernel_rfl) hs]
  have hf : (Tryz.prog.fieldsOf 66).toList = [{ name := "author", type := 3, offset := 0, embedded := false, tag := "", pkgPath := "trustflow/vouch", byteOffset := 0 }, { name := "number", type := 3, offset := 1, embedded := false, tag := "", pkgPath := "trustflow/vouch", byteOffset := 8 }] := by kernel_rfl
  rw [hf]
  have hp1 := Tryz.isAgg3
  simp [Op.eqFields, part, Sem.run_bind, hp1, run_equalIn_int w _ _ _ _ _ _ hi, Result.andThen]
  by_cases h : a1 = b1
  · by_cases k : a2 = b2
    · simp [h, k]
    · simp [h, k]
  · simp [h]
set_option maxRecDepth 100000 in
theorem run_checkPlace (e : Bool) (k : Int × Int) (w : World) : (Instr.checkKey e 10000 66 (pkV k)).run Tryz.prog w = .ok () w := by
  have hu := Tryz.underlying66
  have hi := Tryz.underlying3
  unfold pkV
  rw [show (10000 : Nat) = 9998 + 1 + 1 from rfl]
  unfold Instr.checkKey
  have hp1 := Tryz.isAgg3
  have hc : ∀ v : Int, (Instr.checkKey e (9998 + 1) 3 (.int .i64 v)).run Tryz.prog w = .ok () w := fun v => by
    unfold Instr.checkKey
    simp only [Sem.run_bind, run_underlying hi, Result.andThen]
    rfl
  simp only [Sem.run_bind, run_underlying hu, Result.andThen]
  rw [← Array.forIn_toList]
  simp [part, Sem.run_bind, hp1, hc, Result.andThen]
set_option maxRecDepth 100000 in
theorem run_askP (k : Int × Int) (w : World) : ∀ (l : List ((Int × Int) × Int)) (i j : Nat), ∃ m, (Instr.findAsking 66 (pkV k) (pents l i) j).run Tryz.prog w = .ok ((lookP l k).map fun v => (m, Value.int .i64 v)) w
  | [], i, j => ⟨0, by simp [pents, Instr.findAsking, lookP]⟩
  | p :: l, i, j => by
    by_cases h : p.1 = k
    · refine ⟨j, ?_⟩
      simp [pents, Instr.findAsking, lookP, run_eqPlace, Result.andThen, h]
    · obtain ⟨m, hm⟩ := run_askP k w l (i + 1) (j + 1)
      refine ⟨m, ?_⟩
      have h2 : ¬ k = p.1 := fun e => h e.symm
      simp [pents, Instr.findAsking, lookP, run_eqPlace, Result.andThen, h, h2, hm]
set_option maxRecDepth 100000 in
theorem run_findP (k : Int × Int) (w : World) (l : List ((Int × Int) × Int)) : ∃ m, (Instr.findKey 66 (pkV k) (pents l 0)).run Tryz.prog w = .ok ((lookP l k).map fun v => (m, Value.int .i64 v)) w := by
  obtain ⟨m, hm⟩ := run_askP k w l 0 0
  exact ⟨m, (run_findKey_eq w (by rw [Tryz.underlying66]) _ _).trans hm⟩
/-- v, ok := m[k]. -/
theorem run_lookP {w : World} {b : Nat} {l : List ((Int × Int) × Int)} (hm : PMap w b l) (k : Int × Int) :
    (Instr.lookup 62 (.map (some b)) (pkV k) true).run Tryz.prog w = .ok (.tuple #[.int .i64 ((lookP l k).getD 0), .bool (lookP l k).isSome]) w := by
  obtain ⟨m, hf⟩ := run_findP k w l
  have hz := Tryz.zeroValue3 w
  cases h : lookP l k with
  | none =>
    rw [h] at hf
    simp [Instr.lookup, Sem.run_bind, run_underlying Tryz.underlying62, Result.andThen_ok, MapKept.run_getObj_map hm, run_checkPlace, hf, hz]
  | some v =>
    rw [h] at hf
    simp [Instr.lookup, Sem.run_bind, run_underlying Tryz.underlying62, Result.andThen_ok, MapKept.run_getObj_map hm, run_checkPlace, hf]
/-- m[k] = v, k not among the keys. -/
theorem run_putP {w : World} {b : Nat} {l : List ((Int × Int) × Int)} (hm : PMap w b l) (k : Int × Int) (v : Int) (hn : lookP l k = none) :
    (Instr.mapUpdate 62 (.map (some b)) (pkV k) (.int .i64 v)).run Tryz.prog w = .ok () (setBlock w b (.map (pents (l ++ [(k, v)]) 0).toArray (l ++ [(k, v)]).length)) := by
  obtain ⟨m, hf⟩ := run_findP k w l
  rw [hn] at hf
  have hp : (pents l 0).toArray.push ⟨pkV k, .int .i64 v, l.length⟩ = (pents (l ++ [(k, v)]) 0).toArray := by
    rw [pents_app]; simp [pents]
  have hf' : (Instr.findKey 66 (pkV k) (pents l 0)).run Tryz.prog w = .ok none w := hf
  simp only [Instr.mapUpdate, Sem.run_bind, run_underlying Tryz.underlying62, Result.andThen_ok, MapKept.run_getObj_map hm, run_checkPlace, hf', MapKept.run_setObj_map _ hm]
  rw [hp]
  simp [setBlock]
end Go.Proofs.YtjmapbaofpilaaaGreat
/- What the program's table of revocations holds. Plain facts. -/
namespace Go.Proofs.YtjmapbaofpilaaaGreat
def stepP (out : List ((Int × Int) × Int)) (s : Stm) : List ((Int × Int) × Int) := if s.kind = 2 ∧ s.a < s.number ∧ lookP out (s.author, s.a) = none then out ++ [((s.author, s.a), s.time)] else out
def revP (l : List Stm) : List ((Int × Int) × Int) := l.foldl stepP []
theorem revP_snoc (l : List Stm) (s : Stm) : revP (l ++ [s]) = stepP (revP l) s := by unfold revP; rw [List.foldl_append]; rfl
theorem look_fold (s : Stm) : ∀ (l : List Stm) (out : List ((Int × Int) × Int)), (lookP (l.foldl stepP out) (s.author, s.number)).getD (-1) = match lookP out (s.author, s.number) with | some v => v | none => revokedS l s
  | [], out => by
    simp only [List.foldl_nil, revokedS]
    cases lookP out (s.author, s.number) <;> rfl
  | x :: l, out => by
    rw [List.foldl_cons, look_fold s l (stepP out x)]
    by_cases hc : x.kind = 2 ∧ x.a < x.number ∧ lookP out (x.author, x.a) = none
    · rw [show stepP out x = out ++ [((x.author, x.a), x.time)] from if_pos hc, lookP_app]
      cases h : lookP out (s.author, s.number) with
      | some v => rfl
      | none =>
        rw [Option.none_or]
        by_cases hk : (x.author, x.a) = (s.author, s.number)
        · rw [show lookP [((x.author, x.a), x.time)] (s.author, s.number) = some x.time from if_pos hk]
          injection hk with h1 h2
          rw [revokedS, if_pos ⟨h1, by omega, hc.1, h2⟩]
        · rw [show lookP [((x.author, x.a), x.time)] (s.author, s.number) = none from if_neg hk]
          rw [revokedS, if_neg (fun q => hk (by rw [q.1, q.2.2.2]))]
    · rw [show stepP out x = out from if_neg hc]
      cases h : lookP out (s.author, s.number) with
      | some v => rfl
      | none =>
        rw [revokedS, if_neg (fun q => hc ⟨q.2.2.1, by omega, by rw [q.1, q.2.2.2]; exact h⟩)]
theorem look_rev (L : List Stm) (s : Stm) : (lookP (revP L) (s.author, s.number)).getD (-1) = revokedS L s := look_fold s L []
end Go.Proofs.YtjmapbaofpilaaaGreat
/- The walk of vouch's revocations: a table of when what was revoked. -/
namespace Go.Proofs.YtjmapbaofpilaaaGreat
open Go.RowKit Go Go.ChangeMaps
theorem place_info (a b : Int) : (Tryz.prog.info? 66).map (·.size) = some (#[Value.int .i64 a, Value.int .i64 b]).size := by rw [show (#[Value.int .i64 a, Value.int .i64 b]).size = 2 from rfl]; kernel_rfl
set_option maxRecDepth 100000 in
set_option maxHeartbeats 4000000 in
theorem revs_any (A : Option Addr) (n c : Nat) (l : List Pl) (w : World) (hl : LRow w A n c l) (hn : n ≤ 100000) : Calls Tryz.prog 28 #[.slice A n c] w fun e w' => ∃ b, e = .returned (.map (some b)) ∧ PMap w' b (revP (l.map (·.s))) ∧ Below w.heap.size w w' := by
  have HL := Lib.hid hl; have HLN := Lib.hid hl.len
  clear hl
  have hmk : ∀ w, (Instr.makeMap 62 none).run Tryz.prog w = .ok (.map (some w.heap.size)) (w.alloc (.map #[] 0)) := fun _ => by kernel_rfl
  go_enter Tryz.func28, Tryz.ntmps28
  go_wp2_with fail
  clear hmk
  go_loopw [12] (fun i wr => ∃ j : Nat, j ≤ n ∧ i = .int .i64 j ∧ Hid (PMap wr w.heap.size (revP ((l.take j).map (·.s))) ∧ Below w.heap.size w wr)) (fun i _ => n - (intOf i).toNat)
  case atStart => exact ⟨0, Nat.zero_le _, rfl, Lib.hid ⟨pmap_new w, one_new w _⟩⟩
  case round =>
    obtain ⟨j, hj, rfl, HQ⟩ := hrel
    by_cases hlt : j < n
    · have hlt2 : (j : Int) < (n : Int) := by omega
      obtain ⟨b, off, hA, hc⟩ := (HL.out.later HQ.out.2).cells j hlt
      subst hA
      have HST : Hid (revP ((l.take (j + 1)).map (·.s)) = stepP (revP ((l.take j).map (·.s))) (l.getD j noPl).s) := Lib.hid (by rw [take_snocP l j (by rw [HLN.out]; exact hlt), List.map_append]; exact revP_snoc _ _)
      have HC := Lib.hid hc
      clear hc
      generalize l.getD j noPl = q at *
      generalize revP ((l.take j).map (·.s)) = M at *
      go_upto_region 5 with (first | (refine wpList_load_cells rfl 58 (.tmp 14) rfl b (off + j * 13) rfl q.arr _ Tryz.underlying58 rfl q.info HC.out ?_) | (refine wpList_store_new rfl 58 (.tmp 5) (.tmp 15) rfl 58 _ q.arr rfl rfl q.info rfl q.one ?_))
      have HN2 := Lib.hid (one_new wr (.cells q.arr 58))
      have HX : Hid ((wr.alloc (.cells q.arr 58)).heap[wr.heap.size]? = some (.cells q.arr 58 (0, 0))) := Lib.hid (heap_alloc_new _ _)
      have HM := Lib.hid (HQ.out.1.later HN2.out)
      have HB := Lib.hid (HQ.out.2.trans (HN2.out.mono HQ.out.2.size))
      clear HQ HN2 HC
      generalize wr.alloc (.cells q.arr 58) = x2 at *
      generalize wr.heap.size = g at *
      have hq0 : x2.cell? ⟨g, 0, none⟩ = some (.int .i64 q.s.author) := (cell_of_row _ _ 0 _ _ _ HX.out).trans rfl
      have hq5 : x2.cell? ⟨g, 5, none⟩ = some (.int .i64 q.s.a) := (cell_of_row _ _ 5 _ _ _ HX.out).trans rfl
      go_upto_region 6 with (refine wpList_store_new rfl 66 (.tmp 6) (.tmp 20) rfl 66 _ #[.int .i64 q.s.author, .int .i64 q.s.a] rfl rfl (place_info _ _) rfl rfl ?_)
      clear hq0 hq5
      have HN3 := Lib.hid (one_new x2 (.cells #[.int .i64 q.s.author, .int .i64 q.s.a] 66))
      have HP : Hid ((x2.alloc (.cells #[.int .i64 q.s.author, .int .i64 q.s.a] 66)).heap[x2.heap.size]? = some (.cells #[.int .i64 q.s.author, .int .i64 q.s.a] 66 (0, 0))) := Lib.hid (heap_alloc_new _ _)
      replace HM := Lib.hid (HM.out.later HN3.out)
      replace HB := Lib.hid (HB.out.trans (HN3.out.mono HB.out.size))
      replace HX := Lib.hid ((HN3.out.block _ (Array.getElem?_eq_some_iff.1 HX.out).1).trans HX.out)
      clear HN3
      generalize x2.alloc (.cells #[.int .i64 q.s.author, .int .i64 q.s.a] 66) = z2 at *
      generalize x2.heap.size = g2 at *
      have hq1 : z2.cell? ⟨g, 1, none⟩ = some (.int .i64 q.s.number) := (cell_of_row _ _ 1 _ _ _ HX.out).trans rfl
      have hq3 : z2.cell? ⟨g, 3, none⟩ = some (.int .i64 q.s.time) := (cell_of_row _ _ 3 _ _ _ HX.out).trans rfl
      have hq4 : z2.cell? ⟨g, 4, none⟩ = some (.int .i64 q.s.kind) := (cell_of_row _ _ 4 _ _ _ HX.out).trans rfl
      have hq5 : z2.cell? ⟨g, 5, none⟩ = some (.int .i64 q.s.a) := (cell_of_row _ _ 5 _ _ _ HX.out).trans rfl
      by_cases k0 : q.s.kind = 2
      · have b0 : (q.s.kind != 2) = false := by rw [k0]; rfl
        have K0 := Lib.hid k0; clear k0
        by_cases k1 : q.s.a < q.s.number
        · have b1 : decide (q.s.number ≤ q.s.a) = false := decide_eq_false (by omega)
          have b1' : decide (q.s.a ≥ q.s.number) = false := b1
          have K1 := Lib.hid k1; clear k1
          have hlk := run_lookP HM.out (q.s.author, q.s.a)
          unfold pkV at hlk
          simp only at hlk
          cases hlook : lookP M (q.s.author, q.s.a) with
          | some v =>
            rw [hlook] at hlk
            simp only [Option.getD_some, Option.isSome_some] at hlk
            have HE : Hid (revP ((l.take (j + 1)).map (·.s)) = M) := Lib.hid (by rw [HST.out]; exact if_neg (fun h => by rw [hlook] at h; exact absurd h.2.2 (by simp)))
            clear hlook
            go_wp2_with (refine wpList_load_row rfl 66 (.tmp 6) rfl g2 rfl 66 #[.int .i64 q.s.author, .int .i64 q.s.a] (0, 0) _ HP.out Tryz.underlying66 rfl (place_info _ _) ?_)
            exact ⟨⟨j + 1, hlt, by go_num, Lib.hid ⟨by rw [HE.out]; exact HM.out, HB.out⟩⟩, by simp [intOf]; omega⟩
          | none =>
            rw [hlook] at hlk
            simp only [Option.getD_none, Option.isSome_none] at hlk
            have HE : Hid (revP ((l.take (j + 1)).map (·.s)) = M ++ [((q.s.author, q.s.a), q.s.time)]) := Lib.hid (by rw [HST.out]; exact if_pos ⟨K0.out, K1.out, hlook⟩)
            have hput := run_putP HM.out (q.s.author, q.s.a) q.s.time hlook
            unfold pkV at hput
            simp only at hput
            clear hlook
            go_wp2_with (refine wpList_load_row rfl 66 (.tmp 6) rfl g2 rfl 66 #[.int .i64 q.s.author, .int .i64 q.s.a] (0, 0) _ HP.out Tryz.underlying66 rfl (place_info _ _) ?_)
            refine ⟨⟨j + 1, hlt, by go_num, Lib.hid ⟨?_, HB.out.trans ((setBlock_but z2 w.heap.size _).below (Nat.le_refl _) HB.out.size)⟩⟩, by simp [intOf]; omega⟩
            rw [HE.out]
            unfold PMap
            rw [List.length_append]
            exact setBlock_at HM.out
        · have b1 : decide (q.s.number ≤ q.s.a) = true := decide_eq_true (by omega)
          have b1' : decide (q.s.a ≥ q.s.number) = true := b1
          have HE : Hid (revP ((l.take (j + 1)).map (·.s)) = M) := Lib.hid (by rw [HST.out]; exact if_neg (fun h => k1 h.2.1))
          clear k1
          go_wp2_with fail
          exact ⟨⟨j + 1, hlt, by go_num, Lib.hid ⟨by rw [HE.out]; exact HM.out, HB.out⟩⟩, by simp [intOf]; omega⟩
      · have b0 : (q.s.kind != 2) = true := by rw [bne_iff_ne]; exact k0
        have HE : Hid (revP ((l.take (j + 1)).map (·.s)) = M) := Lib.hid (by rw [HST.out]; exact if_neg (fun h => k0 h.1))
        clear k0
        go_wp2_with fail
        exact ⟨⟨j + 1, hlt, by go_num, Lib.hid ⟨by rw [HE.out]; exact HM.out, HB.out⟩⟩, by simp [intOf]; omega⟩
    · have hlt2 : ¬ (j : Int) < (n : Int) := by omega
      have HE : Hid (j = n) := by unfold Hid; omega
      go_wp2_with fail
      go_ret
      refine ⟨_, rfl, ?_, HQ.out.2⟩
      have h := HQ.out.1
      rw [HE.out, List.take_of_length_le (by rw [HLN.out]; exact Nat.le_refl _)] at h
      exact h
end Go.Proofs.YtjmapbaofpilaaaGreat
/- slices.SortFunc over vouches, with vouch's compare: the shelf's contract at this program. -/
namespace Go.Proofs.YtjmapbaofpilaaaGreat
open Go.RowKit Go.Shelf Go.Sort
def sortVou_ren : Go.Shelf.Ren := ⟨fun | 6 => 29 | 15 => 50 | 14 => 49 | 28 => 79 | 29 => 80 | 20 => 71 | 21 => 72 | 22 => 73 | 23 => 74 | 24 => 75 | 25 => 76 | 26 => 77 | 27 => 78 | 46 => 99 | 47 => 100 | 48 => 101 | 49 => 102 | 50 => 103 | 57 => 108 | n => n, fun | 22 => 37 | 24 => 40 | 25 => 68 | 3 => 3 | 39 => 85 | 0 => 0 | 53 => 109 | 55 => 111 | 4 => 4 | 46 => 103 | 45 => 102 | 50 => 64 | 5 => 5 | 9 => 9 | 66 => 127 | 70 => 131 | 76 => 136 | 77 => 137 | n => n, fun | n => n⟩
theorem sortVou : SlLaysF0.n6 Tryz.prog sortVou_ren := {
  mixed := by kernel_rfl
  f6 := ⟨Tryz.f29.name, by decide, Tryz.func29.trans (congrArg some (by kernel_rfl))⟩
  f14 := ⟨Tryz.f49.name, by decide, Tryz.func49.trans (congrArg some (by kernel_rfl))⟩
  f15 := Tryz.func50.trans (congrArg some (by kernel_rfl))
  f20 := ⟨Tryz.f71.name, by decide, Tryz.func71.trans (congrArg some (by kernel_rfl))⟩
  f21 := ⟨Tryz.f72.name, by decide, Tryz.func72.trans (congrArg some (by kernel_rfl))⟩
  f22 := ⟨Tryz.f73.name, by decide, Tryz.func73.trans (congrArg some (by kernel_rfl))⟩
  f23 := ⟨Tryz.f74.name, by decide, Tryz.func74.trans (congrArg some (by kernel_rfl))⟩
  f24 := ⟨Tryz.f75.name, by decide, Tryz.func75.trans (congrArg some (by kernel_rfl))⟩
  f25 := ⟨Tryz.f76.name, by decide, Tryz.func76.trans (congrArg some (by kernel_rfl))⟩
  f26 := ⟨Tryz.f77.name, by decide, Tryz.func77.trans (congrArg some (by kernel_rfl))⟩
  f27 := ⟨Tryz.f78.name, by decide, Tryz.func78.trans (congrArg some (by kernel_rfl))⟩
  f28 := Tryz.func79.trans (congrArg some (by kernel_rfl))
  f29 := Tryz.func80.trans (congrArg some (by kernel_rfl))
  f46 := ⟨Tryz.f99.name, by decide, Tryz.func99.trans (congrArg some (by kernel_rfl))⟩
  f47 := Tryz.func100.trans (congrArg some (by kernel_rfl))
  f48 := Tryz.func101.trans (congrArg some (by kernel_rfl))
  f49 := ⟨Tryz.f102.name, by decide, Tryz.func102.trans (congrArg some (by kernel_rfl))⟩
  f50 := ⟨Tryz.f103.name, by decide, Tryz.func103.trans (congrArg some (by kernel_rfl))⟩
  f57 := ⟨Tryz.f108.name, by decide, Tryz.func108.trans (congrArg some (by kernel_rfl))⟩
  t0 := Tryz.underlying0
  a0 := Tryz.isAgg0
  z0 := Tryz.sizeOf0
  v0 := Tryz.zeroValue0
  t3 := Tryz.underlying3
  a3 := Tryz.isAgg3
  z3 := Tryz.sizeOf3
  v3 := Tryz.zeroValue3
  t4 := Tryz.underlying4
  a4 := Tryz.isAgg4
  z4 := Tryz.sizeOf4
  v4 := Tryz.zeroValue4
  t5 := Tryz.underlying5
  a5 := Tryz.isAgg5
  z5 := Tryz.sizeOf5
  v5 := Tryz.zeroValue5
  t9 := Tryz.underlying9
  a9 := Tryz.isAgg9
  z9 := Tryz.sizeOf9
  v9 := Tryz.zeroValue9
  t22 := Tryz.underlying37
  a22 := Tryz.isAgg37
  z22 := Tryz.sizeOf37
  v22 := Tryz.zeroValue37
  t25 := Tryz.underlying68
  a25 := Tryz.isAgg68
  z25 := Tryz.sizeOf68
  v25 := Tryz.zeroValue68
  t39 := Tryz.underlying85
  a39 := Tryz.isAgg85
  z39 := Tryz.sizeOf85
  v39 := Tryz.zeroValue85
  t45 := Tryz.underlying102
  a45 := Tryz.isAgg102
  z45 := Tryz.sizeOf102
  v45 := Tryz.zeroValue102
  t46 := Tryz.underlying103
  a46 := Tryz.isAgg103
  z46 := Tryz.sizeOf103
  v46 := Tryz.zeroValue103
  t50 := Tryz.underlying64
  a50 := Tryz.isAgg64
  z50 := Tryz.sizeOf64
  v50 := Tryz.zeroValue64
  t53 := Tryz.underlying109
  a53 := Tryz.isAgg109
  z53 := Tryz.sizeOf109
  v53 := Tryz.zeroValue109
  t55 := Tryz.underlying111
  a55 := Tryz.isAgg111
  z55 := Tryz.sizeOf111
  v55 := Tryz.zeroValue111
  t66 := Tryz.underlying127
  a66 := Tryz.isAgg127
  z66 := Tryz.sizeOf127
  v66 := Tryz.zeroValue127
  t70 := Tryz.underlying131
  a70 := Tryz.isAgg131
  z70 := Tryz.sizeOf131
  v70 := Tryz.zeroValue131
  t76 := Tryz.underlying136
  a76 := Tryz.isAgg136
  z76 := Tryz.sizeOf136
  v76 := Tryz.zeroValue136
  t77 := Tryz.underlying137
  a77 := Tryz.isAgg137
  z77 := Tryz.sizeOf137
  v77 := Tryz.zeroValue137 }
theorem laid_grow {a b : World} (h : Laid a b) : ∃ q os, b = Sort.grow (a.drewN q) os := by
  obtain ⟨h1, h2⟩ := h
  refine ⟨b.drawn - a.drawn, b.heap.extract a.heap.size b.heap.size, ?_⟩
  obtain ⟨ho, ht, hu, hs, hb⟩ := h1
  obtain ⟨bh, bt, bd, bo, bu⟩ := b
  obtain ⟨ah, at', ad, ao, au⟩ := a
  simp only at ho ht hu hs hb h2
  subst ho ht hu
  unfold Sort.grow World.drewN
  simp only
  congr 1
  · apply Array.ext
    · simp; omega
    · intro i h3 h4
      by_cases hi : i < ah.size
      · rw [Array.getElem_append_left hi]
        have := hb i hi
        rw [Array.getElem?_eq_getElem h3, Array.getElem?_eq_getElem hi] at this
        injection this
      · rw [Array.getElem_append_right (by omega), Array.getElem_extract]
        congr 1
        omega
  · omega
instance : Inhabited Vou := ⟨noVou⟩
theorem cmpLaysV (blk off size : Nat) (w : World) : CmpLays Tryz.prog 30 #[] Vou.cells 7 cmpVo blk off size w := fun m os dk _ x y => by
  refine Calls.mono (compareV_any x y _) ?_
  rintro e w' ⟨rfl, h⟩
  exact ⟨rfl, laid_grow h⟩
theorem vrow_at (l : List Vou) (t : Nat) (h : t < l.length * 7) : (rowC Vou.cells l)[t]? = some ((Vou.cells (l.getD (t / 7) noVou)).getD (t % 7) undef) := by
  have h1 : t / 7 < l.length := by omega
  have e : t = t / 7 * 7 + t % 7 := by omega
  conv => lhs; rw [e, ← List.getElem?_drop, rowC_drop Vou.len, List.drop_eq_getElem_cons h1]
  show (Vou.cells l[t / 7] ++ rowC Vou.cells _)[t % 7]? = _
  have e1 : l.getD (t / 7) noVou = l[t / 7] := by rw [List.getD_eq_getElem?_getD, List.getElem?_eq_getElem h1]; rfl
  rw [e1, List.getElem?_append_left (by rw [Vou.len]; omega), List.getD_eq_getElem?_getD, List.getElem?_eq_getElem (by rw [Vou.len]; omega)]
  rfl
theorem vflat_at (l : List Vou) (t : Nat) (h : t < l.length * 7) : some ((flatK Vou.cells 7 l.toArray)[t]!) = (rowC Vou.cells l)[t]? := by
  rw [get_flatK _ _ _ _ (by simpa using h), vrow_at l t h]
  have h1 : t / 7 < l.length := by omega
  congr 1
  have e1 : l.toArray[t / 7]! = l.getD (t / 7) noVou := by
    rw [getElem!_pos _ _ (by simpa using h1), List.getD_eq_getElem?_getD, List.getElem?_eq_getElem h1]
    rfl
  rw [e1]
  generalize l.getD (t / 7) noVou = x
  rw [getElem!_pos _ _ (by rw [Vou.len]; omega), List.getD_eq_getElem?_getD, List.getElem?_eq_getElem (by rw [Vou.len]; omega)]
  rfl
theorem cmpVo_swo : Go.Sort.SWO (ltOf cmpVo) where
  irrefl x := by unfold ltOf; rw [decide_eq_false_iff_not, cmpVo_iff]; unfold ltV; omega
  trans x y z h k := by unfold ltOf at *; rw [decide_eq_true_eq, cmpVo_iff] at *; exact ltV_trans h k
  ntrans x y z h k := by unfold ltOf at *; rw [decide_eq_false_iff_not, cmpVo_iff] at *; unfold ltV at *; omega
theorem below_put (w : World) (m blk off : Nat) (d : Array Vou) (os : Array Obj) {B : Nat} (hB : B ≤ blk) (hb : B ≤ w.heap.size) : RowKit.Below B w (sortWorldK Vou.cells 7 w blk off m d os) := by
  refine ⟨rfl, rfl, rfl, ?_, fun k hk => ?_⟩
  · exact size_sortWorldK_c Vou.cells 7 w blk off m d os
  · unfold sortWorldK Sort.grow putRowK putRow mapBlock Sort.ahead
    simp only
    rw [Array.getElem?_append_left (by simp; omega), Array.getElem?_modify, if_neg (by omega)]
/-- The list of a sorted row. -/
def SortedV (l : List Vou) : Prop := ∀ i j, i < j → j < l.length → ¬ cmpVo (l.getD j noVou) (l.getD i noVou) < 0
set_option maxHeartbeats 1000000 in
theorem sortV_any (B : Nat) (v : Value) (n : Nat) (l : List Vou) (w : World) (ho : w.ownsRow B 40 7 v n (rowC Vou.cells l)) (h0 : 0 < n) (hn : n ≤ 1000000) (hB : B ≤ w.heap.size) :
    Calls Tryz.prog 29 #[v, .func (.func 30) #[] #[]] w fun e w' => e = .returned (.tuple #[]) ∧ ∃ A c l', v = .slice A n c ∧ l'.Perm l ∧ SortedV l' ∧ VRow w' A n c l' ∧ RowKit.Below B w w' := by
  obtain ⟨hlen, ⟨rfl, hz⟩ | ⟨g, cap, cur, rfl, hBg, hg, hnc, hcm, hcs, htk⟩⟩ := ho
  · omega
  have hln : l.length = n := by rw [rowC_len Vou.len] at hlen; omega
  have hcur : ∀ t, t < n * 7 → cur[t]? = (rowC Vou.cells l)[t]? := fun t ht => by
    rw [← htk, List.getElem?_take_of_lt ht]; simp
  have hH : HoldsK Vou.cells 7 w g 0 l.toArray := by
    intro t ht
    have ht' : t < l.length * 7 := by simpa using ht
    rw [Nat.zero_add]
    refine ⟨?_, ?_⟩
    · rw [cell_of_row _ _ _ _ _ _ hg, hcur t (by rw [← hln]; exact ht'), ← vflat_at l t ht']; rfl
    · unfold World.frozen?
      rw [hg]
      simp
  have hblk : g < w.heap.size := (Array.getElem?_eq_some_iff.1 hg).1
  have eg : ∀ args w, (callFunc 30 args).run Tryz.prog w = .ok (.enter 30 args) w := enters_of Tryz.func30 (by kernel_rfl) rfl
  have hcon := AnyQ.slices_SortFunc sortVou 7 Tryz.isAgg40 Tryz.sizeOf40 Vou.cells Vou.len (fun x u hu => x.ones u hu) cmpVo cmpVo_swo 30 #[] g 0 cap l.toArray w eg (cmpLaysV g 0 _ w) hH hblk (by simp; omega)
  rw [List.size_toArray, hln] at hcon
  refine Calls.mono hcon ?_
  rintro e w' ⟨rfl, d', m, os, hp, hs, rfl⟩
  obtain ⟨hps, -, hpp⟩ := hp
  have hds : d'.size = n := by rw [hps, List.size_toArray, hln]
  refine ⟨rfl, _, _, d'.toList, rfl, ?_, ?_, ?_, below_put w m g 0 d' os hBg hB⟩
  · have e1 : d'.extract 0 n = d' := by rw [← hds]; simp
    have e2 : l.toArray.extract 0 n = l.toArray := by rw [← hln, ← List.size_toArray]; simp
    rw [e1, e2] at hpp
    exact hpp
  · intro i j hij hj
    have hj' : j < d'.size := by simpa using hj
    have h := hs i j (Nat.zero_le _) hij (by omega)
    unfold ltOf at h
    have h2 := of_decide_eq_false h
    have ei : d'[i]! = d'.toList.getD i noVou := by
      rw [getElem!_pos _ _ (by omega), List.getD_eq_getElem?_getD, List.getElem?_eq_getElem (by simp; omega)]; simp
    have ej : d'[j]! = d'.toList.getD j noVou := by
      rw [getElem!_pos _ _ (by omega), List.getD_eq_getElem?_getD, List.getElem?_eq_getElem (by simp; omega)]; simp
    rw [← ei, ← ej]
    exact h2
  · have hH2 := holdsK_sortWorldK_c Vou.cells 7 w g 0 l.toArray d' m os hH hblk (by simp [hds, hln])
    refine ⟨by rw [rowC_len Vou.len]; simp [hds], hnc, fun h => (by cases h), fun ad hA _ => ?_⟩
    injection hA with hA
    subst hA
    refine ⟨g, 0, rfl, fun t ht => ?_⟩
    have ht' : t < d'.size * 7 := by rw [hds]; exact ht
    have h := (hH2 t (by simpa using ht')).1
    rw [h]
    have := vflat_at d'.toList t (by simpa using ht')
    rw [← this]
    simp
theorem sortV_all (B : Nat) (v : Value) (n : Nat) (l : List Vou) (w : World) (ho : w.ownsRow B 40 7 v n (rowC Vou.cells l)) (hn : n ≤ 1000000) (hB : B ≤ w.heap.size) :
    Calls Tryz.prog 29 #[v, .func (.func 30) #[] #[]] w fun e w' => e = .returned (.tuple #[]) ∧ ∃ A c l', v = .slice A n c ∧ l'.Perm l ∧ SortedV l' ∧ VRow w' A n c l' ∧ RowKit.Below B w w' := by
  by_cases h0 : 0 < n
  · exact sortV_any B v n l w ho h0 hn hB
  · obtain ⟨A, c, hv, hr⟩ := Row.of_own ho
    have hn0 : n = 0 := by omega
    subst hn0
    have hl : l = [] := List.eq_nil_of_length_eq_zero (VRow.len hr)
    subst hl hv
    refine Calls.mono (AnyF.slices_SortFunc_none sortVou A c _ w) ?_
    rintro e w' ⟨rfl, rfl⟩
    exact ⟨rfl, A, c, [], rfl, List.Perm.refl _, fun i j _ h => absurd h (Nat.not_lt_zero _), hr, RowKit.Below.refl _ _⟩
theorem vouches_same {L : List Stm} (h : Ord10 L) {l' : List Vou} (hp : l'.Perm ((L.filter fun s => decide (s.kind = 1)).map (vouOf L))) (hs : SortedV l') : l' = vouchesS L := by
  have hk : (((L.filter fun s => decide (s.kind = 1)).map (vouOf L))).Pairwise fun a b => ¬ keyV a b := by
    rw [List.pairwise_map]
    exact (h.apartN.filter _).imp fun hn hkk => hn ⟨hkk.1, hkk.2.2⟩
  have hk2 : l'.Pairwise fun a b => ¬ keyV a b := (hp.pairwise_iff (fun {a b} hab hba => hab ⟨hba.1.symm, hba.2.1.symm, hba.2.2.symm⟩)).2 hk
  refine sorted_ext (r := ltV) (fun a b h k => by unfold ltV at *; omega) ?_ (vouches_sorted h) fun y => ?_
  · rw [List.pairwise_iff_getElem] at hk2 ⊢
    intro i j hi hj hij
    have h1 := hk2 i j hi hj hij
    have h2 := hs i j hij hj
    rw [cmpVo_iff, getDV hi, getDV hj] at h2
    exact ltV_of_not h2 fun q => h1 ⟨q.1.symm, q.2.1.symm, q.2.2.symm⟩
  · rw [hp.mem_iff, vouches_mem h, List.mem_map]
    constructor
    · rintro ⟨s, hs, rfl⟩
      obtain ⟨h1, h2⟩ := List.mem_filter.1 hs
      exact ⟨s, h1, by simpa using h2, rfl⟩
    · rintro ⟨s, h1, h2, rfl⟩
      exact ⟨s, List.mem_filter.2 ⟨h1, by simpa using h2⟩, rfl⟩
end Go.Proofs.YtjmapbaofpilaaaGreat
/- The walk of vouch's Of. -/
namespace Go.Proofs.YtjmapbaofpilaaaGreat
open Go.RowKit Go Go.ChangeMaps
def rawV (L m : List Stm) : List Vou := (m.filter fun s => decide (s.kind = 1)).map (vouOf L)
theorem rawV_snoc (L m : List Stm) (s : Stm) : rawV L (m ++ [s]) = rawV L m ++ (if s.kind = 1 then [vouOf L s] else []) := by
  unfold rawV
  rw [List.filter_append, List.map_append]
  congr 1
  by_cases h : s.kind = 1
  · rw [if_pos h, List.filter_cons_of_pos (by simpa using h)]; rfl
  · rw [if_neg h, List.filter_cons_of_neg (by simpa using h)]; rfl
theorem rawV_len (L m : List Stm) : (rawV L m).length ≤ m.length := by unfold rawV; rw [List.length_map]; exact List.length_filter_le _ _
theorem rev_cell {w : World} {g : Nat} {p : Vou} (h : w.heap[g]? = some (.cells p.arr 40 (0, 0))) (v : Int) : (w.setCell ⟨g, 6, none⟩ (.int .i64 v)).heap[g]? = some (.cells (Vou.arr { p with rv := v }) 40 (0, 0)) := heap_setCell_same w g 6 _ _ _ h
set_option maxRecDepth 100000 in
set_option maxHeartbeats 4000000 in
theorem vOf_any (A : Option Addr) (n c : Nat) (l : List Pl) (w : World) (hl : LRow w A n c l) (hn : n ≤ 100000) (ho : Ord10 (l.map (·.s))) : Calls Tryz.prog 12 #[.slice A n c] w (GivesV w (vouchesS (l.map (·.s)))) := by
  have HL := Lib.hid hl; have HLN := Lib.hid hl.len; have HO := Lib.hid ho
  have HRV := Lib.hid (revs_any A n c l w hl hn)
  have HLR : Hid (∀ s, (lookP (revP (l.map (·.s))) (s.author, s.number)).getD (-1) = revokedS (l.map (·.s)) s) := Lib.hid fun s => look_rev _ s
  clear hl ho
  go_enter Tryz.func12, Tryz.ntmps12
  go_wp2_with fail
  refine HRV.out.mono ?_
  rintro e w1 ⟨bm, rfl, hm, hb⟩
  have HM := Lib.hid hm; have HW := Lib.hid hb; have HBM : Hid (bm < w1.heap.size) := Lib.hid hm.lt
  clear hm hb HRV
  replace HL := Lib.hid (HL.out.later HW.out)
  go_wp2_with fail
  go_loopw [4, 14] (fun v i wr => ∃ j : Nat, j ≤ n ∧ i = .int .i64 j ∧ Hid (wr.ownsRow w1.heap.size 40 7 v (rawV (l.map (·.s)) ((l.take j).map (·.s))).length (rowC Vou.cells (rawV (l.map (·.s)) ((l.take j).map (·.s)))) ∧ Below w1.heap.size w1 wr)) (fun _ i _ => n - (intOf i).toNat)
  case atStart => exact ⟨0, Nat.zero_le _, rfl, Lib.hid ⟨World.ownsRow_nil _ _ _ _, Below.refl _ _⟩⟩
  case round =>
    obtain ⟨j, hj, rfl, HQ⟩ := hrel
    obtain ⟨A1, c1, hv, -⟩ := Row.of_own HQ.out.1
    subst hv
    by_cases hlt : j < n
    · have hlt2 : (j : Int) < (n : Int) := by omega
      obtain ⟨b, off, hA, hc⟩ := (HL.out.later HQ.out.2).cells j hlt
      subst hA
      have HC := Lib.hid hc
      have HST : Hid (rawV (l.map (·.s)) ((l.take (j + 1)).map (·.s)) = rawV (l.map (·.s)) ((l.take j).map (·.s)) ++ (if (l.getD j noPl).s.kind = 1 then [vouOf (l.map (·.s)) (l.getD j noPl).s] else [])) := Lib.hid (by rw [take_snocP l j (by rw [HLN.out]; exact hlt), List.map_append]; exact rawV_snoc _ _ _)
      have HUL : Hid ((rawV (l.map (·.s)) ((l.take j).map (·.s))).length ≤ 100000) := Lib.hid (Nat.le_trans (rawV_len _ _) (by rw [List.length_map, List.length_take]; omega))
      have HLK := Lib.hid (HLR.out (l.getD j noPl).s)
      have HVO : Hid (vouOf (l.map (·.s)) (l.getD j noPl).s = ⟨(l.getD j noPl).s.author, (l.getD j noPl).s.a, (l.getD j noPl).s.b, (l.getD j noPl).s.number, (l.getD j noPl).s.time, (l.getD j noPl).s.c, revokedS (l.map (·.s)) (l.getD j noPl).s⟩) := Lib.hid rfl
      clear hc
      generalize l.getD j noPl = q at *
      generalize rawV (l.map (·.s)) ((l.take j).map (·.s)) = U at *
      generalize vouOf (l.map (·.s)) q.s = V at *
      generalize revokedS (l.map (·.s)) q.s = RV at *
      generalize revP (l.map (·.s)) = RP at *
      go_upto_region 6 with (first | (refine wpList_load_cells rfl 58 (.tmp 16) rfl b (off + j * 13) rfl q.arr _ Tryz.underlying58 rfl q.info HC.out ?_) | (refine wpList_store_new rfl 58 (.tmp 6) (.tmp 17) rfl 58 _ q.arr rfl rfl q.info rfl q.one ?_))
      have HN2 := Lib.hid (one_new wr (.cells q.arr 58))
      have HX : Hid ((wr.alloc (.cells q.arr 58)).heap[wr.heap.size]? = some (.cells q.arr 58 (0, 0))) := Lib.hid (heap_alloc_new _ _)
      have HW1 : Hid (w1.heap.size ≤ wr.heap.size) := Lib.hid HQ.out.2.size
      have HB := Lib.hid (HQ.out.2.trans (HN2.out.mono HQ.out.2.size))
      have HU := Lib.hid (own_later HQ.out.1 HN2.out)
      clear HQ HN2 HC
      generalize wr.alloc (.cells q.arr 58) = x2 at *
      generalize wr.heap.size = g at *
      have hq4 : x2.cell? ⟨g, 4, none⟩ = some (.int .i64 q.s.kind) := (cell_of_row _ _ 4 _ _ _ HX.out).trans rfl
      by_cases hk : q.s.kind = 1
      · have b0 : (q.s.kind != 1) = false := by rw [hk]; rfl
        have HST2 : Hid (rawV (l.map (·.s)) ((l.take (j + 1)).map (·.s)) = U ++ [V]) := Lib.hid (by rw [HST.out, if_pos hk])
        clear hk HST
        go_upto_region 7 with fail
        clear b0 hq4
        have hq0 : x2.cell? ⟨g, 0, none⟩ = some (.int .i64 q.s.author) := (cell_of_row _ _ 0 _ _ _ HX.out).trans rfl
        have hq1 : x2.cell? ⟨g, 1, none⟩ = some (.int .i64 q.s.number) := (cell_of_row _ _ 1 _ _ _ HX.out).trans rfl
        have hq3 : x2.cell? ⟨g, 3, none⟩ = some (.int .i64 q.s.time) := (cell_of_row _ _ 3 _ _ _ HX.out).trans rfl
        have hq5 : x2.cell? ⟨g, 5, none⟩ = some (.int .i64 q.s.a) := (cell_of_row _ _ 5 _ _ _ HX.out).trans rfl
        have hq6 : x2.cell? ⟨g, 6, none⟩ = some (.int .i64 q.s.b) := (cell_of_row _ _ 6 _ _ _ HX.out).trans rfl
        have hq7 : x2.cell? ⟨g, 7, none⟩ = some (.int .i64 q.s.c) := (cell_of_row _ _ 7 _ _ _ HX.out).trans rfl
        go_upto_region 8 with (refine wpList_store_new rfl 40 (.tmp 7) (.tmp 33) rfl 40 _ (Vou.arr ⟨q.s.author, q.s.a, q.s.b, q.s.number, q.s.time, q.s.c, -1⟩) rfl rfl (Vou.info _) rfl (Vou.one _) ?_)
        clear hq0 hq1 hq3 hq5 hq6 hq7
        generalize hV0 : (⟨q.s.author, q.s.a, q.s.b, q.s.number, q.s.time, q.s.c, -1⟩ : Vou) = V0 at *
        have HV0 := Lib.hid hV0
        clear hV0
        have HN3 := Lib.hid (one_new x2 (.cells V0.arr 40))
        have HY : Hid ((x2.alloc (.cells V0.arr 40)).heap[x2.heap.size]? = some (.cells V0.arr 40 (0, 0))) := Lib.hid (heap_alloc_new _ _)
        have HG3 : Hid (w1.heap.size ≤ x2.heap.size) := Lib.hid HB.out.size
        have HNE : Hid (∀ k, (Value.slice A1 U.length c1).ownBlock = some k → k < x2.heap.size) := Lib.hid fun k hk => own_lt HU.out k hk
        replace HB := Lib.hid (HB.out.trans (HN3.out.mono HB.out.size))
        replace HX := Lib.hid ((HN3.out.block _ (Array.getElem?_eq_some_iff.1 HX.out).1).trans HX.out)
        replace HU := Lib.hid (own_later HU.out HN3.out)
        clear HN3
        generalize x2.alloc (.cells V0.arr 40) = z2 at *
        generalize x2.heap.size = g3 at *
        have hq0 : z2.cell? ⟨g, 0, none⟩ = some (.int .i64 q.s.author) := (cell_of_row _ _ 0 _ _ _ HX.out).trans rfl
        have hq1 : z2.cell? ⟨g, 1, none⟩ = some (.int .i64 q.s.number) := (cell_of_row _ _ 1 _ _ _ HX.out).trans rfl
        have hlk := run_lookP (HM.out.later (HB.out.mono (Nat.le_refl _))) (q.s.author, q.s.number)
        unfold pkV at hlk
        simp only at hlk
        have hul := HUL.out
        cases hlook : lookP RP (q.s.author, q.s.number) with
        | none =>
          rw [hlook] at hlk
          simp only [Option.getD_none, Option.isSome_none] at hlk
          have HVV : Hid (V0 = V) := Lib.hid (by rw [HVO.out, ← HV0.out, ← HLK.out, hlook]; rfl)
          clear hlook HV0 HVO HLK
          rw [HVV.out] at HY
          have hsz := HB.out.size
          have hvs : V.arr.size = 7 := rfl
          go_wp2_with (first | (refine wpList_load_row rfl 40 (.tmp 7) rfl g3 rfl 40 V.arr (0, 0) _ HY.out Tryz.underlying40 rfl V.info ?_) | (at_builtin; (first | rw [fold7n] | rw [fold7]); go_must (refine wpList_app_newK _ rfl (.tmp 47) (.tmp 49) 37 40 rfl w1.heap.size Tryz.underlying37 vou_info rfl _ U.length (rowC Vou.cells U) HU.out rfl 1 V.arr rfl V.ones rfl rfl (by unfold maxLen; omega) (by omega) hsz ?_); intro x3 z3 ho hb hk1 hk2; have HO4 := Lib.hid ho; have HB4 := Lib.hid (HB.out.trans hb); clear ho hb hk1 hk2))
          exact ⟨⟨j + 1, by omega, by go_num, Lib.hid (by rw [HST2.out, List.length_append, rowC_app, rowC_single]; exact ⟨HO4.out, HB4.out⟩)⟩, by simp [intOf]; omega⟩
        | some v =>
          rw [hlook] at hlk
          simp only [Option.getD_some, Option.isSome_some] at hlk
          have HVV : Hid ({ V0 with rv := v } = V) := Lib.hid (by rw [HVO.out, ← HV0.out, ← HLK.out, hlook]; rfl)
          clear hlook HV0 HVO HLK
          have HY2 := Lib.hid (rev_cell HY.out v)
          rw [HVV.out] at HY2
          have hy6 : z2.cell? ⟨g3, 6, none⟩ = some (.int .i64 V0.rv) := (cell_of_row _ _ 6 _ _ _ HY.out).trans rfl
          have hfz : z2.frozen? ⟨g3, 6, none⟩ = false := by unfold World.frozen?; rw [HY.out]; simp
          have HB2 := Lib.hid (HB.out.setCell (p := ⟨g3, 6, none⟩) HG3.out (.int .i64 v))
          have HU2 := Lib.hid (own_keepL HU.out fun k hk => Below.heap_setCell z2 ⟨g3, 6, none⟩ (.int .i64 v) k (Nat.ne_of_lt (HNE.out k hk)))
          clear HY
          go_upto_region 11 with fail
          clear hlk hq0 hq1 hy6 hfz HB HU HX
          generalize z2.setCell ⟨g3, 6, none⟩ (.int .i64 v) = z4 at *
          have hsz : w1.heap.size ≤ z4.heap.size := HB2.out.size
          have hvs : V.arr.size = 7 := rfl
          go_wp2_with (first | (refine wpList_load_row rfl 40 (.tmp 7) rfl g3 rfl 40 V.arr (0, 0) _ HY2.out Tryz.underlying40 rfl V.info ?_) | (at_builtin; (first | rw [fold7n] | rw [fold7]); go_must (refine wpList_app_newK _ rfl (.tmp 47) (.tmp 49) 37 40 rfl w1.heap.size Tryz.underlying37 vou_info rfl _ U.length (rowC Vou.cells U) HU2.out rfl 1 V.arr rfl V.ones rfl rfl (by unfold maxLen; omega) (by omega) hsz ?_); intro x3 z3 ho hb hk1 hk2; have HO4 := Lib.hid ho; have HB4 := Lib.hid (HB2.out.trans hb); clear ho hb hk1 hk2))
          exact ⟨⟨j + 1, by omega, by go_num, Lib.hid (by rw [HST2.out, List.length_append, rowC_app, rowC_single]; exact ⟨HO4.out, HB4.out⟩)⟩, by simp [intOf]; omega⟩
      · have b0 : (q.s.kind != 1) = true := by rw [bne_iff_ne]; exact hk
        have HE : Hid (rawV (l.map (·.s)) ((l.take (j + 1)).map (·.s)) = U) := Lib.hid (by rw [HST.out, if_neg hk, List.append_nil])
        clear hk
        go_wp2_with fail
        exact ⟨⟨j + 1, by omega, by go_num, Lib.hid (by rw [HE.out]; exact ⟨HU.out, HB.out⟩)⟩, by simp [intOf]; omega⟩
    · have hlt2 : ¬ (j : Int) < (n : Int) := by omega
      have hj2 : j = n := by omega
      have HE : Hid ((l.take j).map (·.s) = l.map (·.s)) := Lib.hid (by rw [List.take_of_length_le (by rw [HLN.out]; omega)])
      have HO2 := Lib.hid HQ.out.1; have HB := Lib.hid HQ.out.2
      rw [HE.out] at HO2
      have HUL : Hid ((rawV (l.map (·.s)) (l.map (·.s))).length ≤ 100000) := Lib.hid (Nat.le_trans (rawV_len _ _) (by rw [List.length_map, HLN.out]; exact hn))
      have HSO := Lib.hid (sortV_all w1.heap.size _ _ _ wr HO2.out (Nat.le_trans HUL.out (by decide)) HB.out.size)
      have HEQ : Hid (∀ l' : List Vou, l'.Perm (rawV (l.map (·.s)) (l.map (·.s))) → SortedV l' → l' = vouchesS (l.map (·.s))) := Lib.hid fun l' hp hs => vouches_same HO.out hp hs
      rw [HE.out]
      clear HQ HE
      generalize rawV (l.map (·.s)) (l.map (·.s)) = U at *
      go_wp2_with fail
      refine HSO.out.mono ?_
      rintro e w5 ⟨rfl, A5, c5, l5, hv5, hp5, hs5, hr5, hb5⟩
      injection hv5 with hA5 _ hc5
      subst hA5 hc5
      have HR5 := Lib.hid hr5
      have HS5 := Lib.hid (HEQ.out l5 hp5 hs5)
      have HB5 := Lib.hid (HW.out.trans ((HB.out.trans hb5).mono HW.out.size))
      clear hr5 hp5 hs5 hb5 HSO
      go_wp2_with fail
      go_ret
      refine ⟨_, _, _, rfl, ?_, HB5.out⟩
      rw [← HS5.out]
      exact HR5.out
end Go.Proofs.YtjmapbaofpilaaaGreat
