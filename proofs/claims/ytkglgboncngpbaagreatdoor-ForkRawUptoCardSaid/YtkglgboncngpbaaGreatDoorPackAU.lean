import Derived.Test.YtkglgboncngpbaaGreatDoorPackAT
import Derived.Test.YtkglgboncngpbaaGreatDoorPackAB
import Derived.Test.YtkglgboncngpbaaGreatDoorRows
import Derived.Deep.Slices
import Derived.Deep.Fields
import Derived.ChangeSame
import Derived.Test.YtkglgboncngpbaaGreatDoorPackAC
/- A statement that came in as an argument: its parts and how much it is. -/
namespace Go.Proofs.YtkglgboncngpbaaGreatDoor
open Go.ChangeShapes Go.WideShapes Go.RowKit Go.Deep
section
variable {H : Type} {enc : TypeId × Value → H} {W : World}
theorem bulk_app (l r : List (DataW H)) : Rows.uptoBulkAll (l ++ r) = Rows.uptoBulkAll l + Rows.uptoBulkAll r := by
  induction l with
  | nil => simp [Rows.uptoBulkAll]
  | cons x l ih => simp only [List.cons_append, Rows.uptoBulkAll, ih]; omega
theorem cellsPin : Tryz.prog.cellsOf 74 = 3 := by kernel_rfl
theorem cellsStm : Tryz.prog.cellsOf 27 = 13 := by kernel_rfl
theorem cellsSeal : Tryz.prog.cellsOf 25 = 2 := by kernel_rfl
theorem cellsInt : Tryz.prog.cellsOf 3 = 1 := by kernel_rfl
theorem cellsStr : Tryz.prog.cellsOf 9 = 1 := by kernel_rfl
theorem cellsInts : Tryz.prog.cellsOf 22 = 1 := by kernel_rfl
theorem cellsPins : Tryz.prog.cellsOf 23 = 1 := by kernel_rfl
theorem part_at {t : TypeId} {n k z : Nat} {cs l : List Value} {y : Option (DataW H × List MemPlace)} (hc : Tryz.prog.cellsOf t = z) (h : DataW.trod enc Tryz.prog W 0 (fun _ => true) true n t (List.take (Tryz.prog.cellsOf t) (List.drop k cs)) = y) (hd : List.take z (List.drop k cs) = l) :
    DataW.trod enc Tryz.prog W 0 (fun _ => true) true n t l = y := by
  rw [hc, hd] at h; exact h
/-- A slice of ints among the parts of an argument. -/
theorem part_ints {fuel : Nat} {v : Value} {x : DataW H × List MemPlace} (h : DataW.trod enc Tryz.prog W 0 (fun _ => true) true fuel 22 [v] = some x) :
    ∃ (A : Option Addr) (n c : Nat) (l : List Int), v = .slice A n c ∧ IRow W A n c l := by
  rcases open_ints Tryz.underlying22 Tryz.underlying3 cellsInt h with ⟨hcs, hx⟩ | ⟨a, len, cap, zs, hcs, _, hl, hm, hz, hx, hcell, hwz⟩
  · injection hcs with e _
    exact ⟨none, 0, 0, [], e, Row.nilRow _ _⟩
  · injection hcs with e _
    simp only [if_true] at hz
    refine ⟨some a, len, cap, zs.take len, e, ⟨by rw [intsV_len, List.length_take]; omega, hl, fun e => (by cases e), fun ad e h0 => ?_⟩⟩
    injection e with e; subst e
    obtain ⟨ab, ao, spot⟩ := a
    have hspot : spot = none := by simpa [Addr.add] using World.cell?_spot (hcell 0 (by omega))
    subst hspot
    refine ⟨ab, ao, rfl, fun i hi => ?_⟩
    rw [Nat.mul_one] at hi
    have := hcell i (by omega)
    rw [Addr.add_lit] at this
    rw [this, intsV, List.getElem?_map, List.getElem?_take, if_pos hi, List.getElem?_eq_getElem (by omega)]
    simp [show i < zs.length by omega, iv]
set_option maxRecDepth 100000 in
/-- A pin among the parts of an argument. -/
theorem part_pin {fuel : Nat} {cs : List Value} {x : DataW H × List MemPlace} (h : DataW.trod enc Tryz.prog W 0 (fun _ => true) true fuel 74 cs = some x) :
    ∃ p : PinD, cs = pinC p ∧ Rows.uptoBulk x.1 = p.digest.size + 4 := by
  obtain ⟨xs, n, _, hx, hlen, hxl, hg⟩ := DataW.trod_struct Tryz.underlying74 h
  rw [cellsPin] at hlen
  match cs, hlen with
  | [c0, c1, c2], _ =>
    match xs, hxl with
    | [y0, y1, y2], _ =>
      have g0 : DataW.trod enc Tryz.prog W 0 (fun _ => true) true n 3 [c0] = some y0 := part_at (k := 0) cellsInt (hg 0 _ rfl) rfl
      have g1 : DataW.trod enc Tryz.prog W 0 (fun _ => true) true n 3 [c1] = some y1 := part_at (k := 1) cellsInt (hg 1 _ rfl) rfl
      have g2 : DataW.trod enc Tryz.prog W 0 (fun _ => true) true n 9 [c2] = some y2 := part_at (k := 2) cellsStr (hg 2 _ rfl) rfl
      obtain ⟨a0, e0, f0, _⟩ := DataW.trod_int Tryz.underlying3 g0
      obtain ⟨a1, e1, f1, _⟩ := DataW.trod_int Tryz.underlying3 g1
      obtain ⟨a2, e2, f2, _⟩ := DataW.trod_string Tryz.underlying9 g2
      injection e0 with e0 _; injection e1 with e1 _; injection e2 with e2 _
      refine ⟨⟨a0, a1, a2⟩, by rw [e0, e1, e2]; rfl, ?_⟩
      rw [hx, f0, f1, f2]
      simp only [List.map_cons, List.map_nil, Rows.uptoBulk, Rows.uptoBulkAll, str_len]
      omega
theorem pins_bulk (P : Nat → PinD) (D : Nat → DataW H) : ∀ k, (∀ i, i < k → Rows.uptoBulk (D i) = (P i).digest.size + 4) →
    (pinsBs ((List.range k).map P)).length ≤ 24 * k + Rows.uptoBulkAll ((List.range k).map D)
  | 0, _ => by simp [pinsBs]
  | k + 1, h => by
    have ih := pins_bulk P D k (fun i hi => h i (by omega))
    have hk := h k (by omega)
    rw [List.range_succ, List.map_append, List.map_append, pinsBs_app, bulk_app, List.length_append]
    simp only [List.map_cons, List.map_nil, Rows.uptoBulkAll]
    have h2 : (pinsBs [P k]).length = 24 + (P k).digest.size := by
      simp only [pinsBs, List.flatMap_cons, List.flatMap_nil, List.append_nil, pinBs, List.length_append, listB_len, textS_len, List.length_cons, List.length_nil]
      omega
    omega
/-- A slice of pins among the parts of an argument. -/
theorem part_pins {fuel : Nat} {v : Value} {x : DataW H × List MemPlace} (h : DataW.trod enc Tryz.prog W 0 (fun _ => true) true fuel 23 [v] = some x) :
    ∃ (B : Option Addr) (m k : Nat) (l : List PinD), v = .slice B m k ∧ PRow W B m k l ∧ (pinsBs l).length ≤ 24 * l.length + Rows.uptoBulk x.1 := by
  rcases open_slice Tryz.underlying23 h with ⟨hcs, hx⟩ | ⟨a, len, cap, m, n, D, Pl, hcs, _, hl, _, hm, hx, hi⟩
  · injection hcs with e _
    exact ⟨none, 0, 0, [], e, Row.nilRow _ _, by simp [pinsBs]⟩
  · injection hcs with e _
    simp only [if_true] at hm
    subst hm
    rw [cellsPin] at hi
    have hall : ∀ i, ∃ p : PinD, i < m → Rows.uptoBulk (D i) = p.digest.size + 4 ∧ ∀ j, j < 3 → W.cell? (a.add (i * 3 + j)) = (pinC p)[j]? := fun i => by
      by_cases hlt : i < m
      · obtain ⟨cs', hc, ht⟩ := hi i hlt
        obtain ⟨p, hp, hb⟩ := part_pin ht
        obtain ⟨_, _, hat⟩ := World.cells?_some hc
        refine ⟨p, fun _ => ⟨hb, fun j hj => ?_⟩⟩
        rw [← Go.Deep.add_add, hat j hj, hp]
      · exact ⟨noPin, fun h => absurd h hlt⟩
    obtain ⟨P, hP⟩ := Classical.skolem.1 hall
    refine ⟨some a, len, m, (List.range len).map P, e, ⟨by rw [pinsC_len, List.length_map, List.length_range], hl, fun e => (by cases e), fun ad e h0 => ?_⟩, ?_⟩
    · injection e with e; subst e
      obtain ⟨ab, ao, spot⟩ := a
      have hspot : spot = none := by
        have := (hP 0 h0).2 0 (by omega)
        simpa [Addr.add] using World.cell?_spot (this.trans rfl)
      subst hspot
      refine ⟨ab, ao, rfl, fun i hi => ?_⟩
      have hq : i / 3 < len := by omega
      have h1 := (hP (i / 3) (by omega)).2 (i % 3) (by omega)
      rw [Addr.add_lit, show i / 3 * 3 + i % 3 = i by omega] at h1
      rw [h1]
      have h2 : ∀ j, (pinsC ((List.range len).map P))[i / 3 * 3 + j]? = (pinsC (((List.range len).map P).drop (i / 3)))[j]? := fun j => by rw [← pinsC_drop, List.getElem?_drop]
      have h3 := h2 (i % 3)
      rw [show i / 3 * 3 + i % 3 = i by omega] at h3
      rw [h3, List.drop_eq_getElem_cons (by simpa using hq)]
      simp only [List.getElem_map, List.getElem_range]
      show _ = (pinC (P (i / 3)) ++ pinsC _)[i % 3]?
      rw [List.getElem?_append_left (by show i % 3 < 3; omega)]
    · have hb := pins_bulk P D len (fun i hi => (hP i (by omega)).1)
      rw [hx]
      simp only [Rows.uptoBulk, List.length_map, List.length_range]
      omega
set_option maxRecDepth 100000 in
/-- A statement that came in. -/
theorem open_stm {base : Nat} {v : Value} {d : DataW H} {p : List MemPlace} (hval : Value.okWide Tryz.prog W .any base 27 v) (h : DataW.Trod enc Tryz.prog W 0 (fun _ => true) true 27 v d p) :
    ∃ (s : Stm) (A : Option Addr) (n c : Nat) (B : Option Addr) (m k : Nat), v = stmV s A n c B m k ∧ IRow W A n c s.list ∧ PRow W B m k s.pins ∧ (pinsBs s.pins).length ≤ 24 * s.pins.length + Rows.uptoBulk d := by
  obtain ⟨cs, rfl, hsz⟩ := okWide_struct Tryz.underlying27 hval
  obtain ⟨l⟩ := cs
  match l, hsz.trans cellsStm with
  | [c0, c1, c2, c3, c4, c5, c6, c7, c8, c9, c10, c11, c12], _ =>
    obtain ⟨fuel, hf⟩ := h
    obtain ⟨xs, n, _, hx, _, hlen, hg⟩ := DataW.trod_struct Tryz.underlying27 hf
    match xs, hlen with
    | [y0, y1, y2, y3, y4, y5, y6, y7, y8, y9, y10, y11], _ =>
      have g0 : DataW.trod enc Tryz.prog W 0 (fun _ => true) true n 3 [c0] = some y0 := part_at (k := 0) cellsInt (hg 0 _ rfl) rfl
      have g1 : DataW.trod enc Tryz.prog W 0 (fun _ => true) true n 3 [c1] = some y1 := part_at (k := 1) cellsInt (hg 1 _ rfl) rfl
      have g2 : DataW.trod enc Tryz.prog W 0 (fun _ => true) true n 9 [c2] = some y2 := part_at (k := 2) cellsStr (hg 2 _ rfl) rfl
      have g3 : DataW.trod enc Tryz.prog W 0 (fun _ => true) true n 3 [c3] = some y3 := part_at (k := 3) cellsInt (hg 3 _ rfl) rfl
      have g4 : DataW.trod enc Tryz.prog W 0 (fun _ => true) true n 3 [c4] = some y4 := part_at (k := 4) cellsInt (hg 4 _ rfl) rfl
      have g5 : DataW.trod enc Tryz.prog W 0 (fun _ => true) true n 3 [c5] = some y5 := part_at (k := 5) cellsInt (hg 5 _ rfl) rfl
      have g6 : DataW.trod enc Tryz.prog W 0 (fun _ => true) true n 3 [c6] = some y6 := part_at (k := 6) cellsInt (hg 6 _ rfl) rfl
      have g7 : DataW.trod enc Tryz.prog W 0 (fun _ => true) true n 3 [c7] = some y7 := part_at (k := 7) cellsInt (hg 7 _ rfl) rfl
      have g8 : DataW.trod enc Tryz.prog W 0 (fun _ => true) true n 22 [c8] = some y8 := part_at (k := 8) cellsInts (hg 8 _ rfl) rfl
      have g9 : DataW.trod enc Tryz.prog W 0 (fun _ => true) true n 23 [c9] = some y9 := part_at (k := 9) cellsPins (hg 9 _ rfl) rfl
      have g10 : DataW.trod enc Tryz.prog W 0 (fun _ => true) true n 9 [c10] = some y10 := part_at (k := 10) cellsStr (hg 10 _ rfl) rfl
      have g11 : DataW.trod enc Tryz.prog W 0 (fun _ => true) true n 25 [c11, c12] = some y11 := part_at (k := 11) cellsSeal (hg 11 _ rfl) rfl
      obtain ⟨a0, e0, _, _⟩ := DataW.trod_int Tryz.underlying3 g0
      obtain ⟨a1, e1, _, _⟩ := DataW.trod_int Tryz.underlying3 g1
      obtain ⟨a2, e2, _, _⟩ := DataW.trod_string Tryz.underlying9 g2
      obtain ⟨a3, e3, _, _⟩ := DataW.trod_int Tryz.underlying3 g3
      obtain ⟨a4, e4, _, _⟩ := DataW.trod_int Tryz.underlying3 g4
      obtain ⟨a5, e5, _, _⟩ := DataW.trod_int Tryz.underlying3 g5
      obtain ⟨a6, e6, _, _⟩ := DataW.trod_int Tryz.underlying3 g6
      obtain ⟨a7, e7, _, _⟩ := DataW.trod_int Tryz.underlying3 g7
      obtain ⟨A, n8, k8, l8, e8, r8⟩ := part_ints g8
      obtain ⟨B, n9, k9, l9, e9, r9, b9⟩ := part_pins g9
      obtain ⟨a10, e10, _, _⟩ := DataW.trod_string Tryz.underlying9 g10
      obtain ⟨xs2, n2, _, _, _, hlen2, hg2⟩ := DataW.trod_struct Tryz.underlying25 g11
      match xs2, hlen2 with
      | [z0, z1], _ =>
        have q0 : DataW.trod enc Tryz.prog W 0 (fun _ => true) true n2 3 [c11] = some z0 := part_at (k := 0) cellsInt (hg2 0 _ rfl) rfl
        have q1 : DataW.trod enc Tryz.prog W 0 (fun _ => true) true n2 9 [c12] = some z1 := part_at (k := 1) cellsStr (hg2 1 _ rfl) rfl
        obtain ⟨a11, e11, _, _⟩ := DataW.trod_int Tryz.underlying3 q0
        obtain ⟨a12, e12, _, _⟩ := DataW.trod_string Tryz.underlying9 q1
        injection e0 with e0 _; injection e1 with e1 _; injection e2 with e2 _; injection e3 with e3 _; injection e4 with e4 _; injection e5 with e5 _; injection e6 with e6 _; injection e7 with e7 _
        injection e10 with e10 _; injection e11 with e11 _; injection e12 with e12 _
        refine ⟨⟨a0, a1, a2, a3, a4, a5, a6, a7, l8, l9, a10, a11, a12⟩, A, n8, k8, B, n9, k9, by rw [e0, e1, e2, e3, e4, e5, e6, e7, e8, e9, e10, e11, e12]; rfl, r8, r9, ?_⟩
        simp only [Prod.mk.injEq] at hx
        rw [hx.1]
        simp only [List.map_cons, List.map_nil, Rows.uptoBulk, Rows.uptoBulkAll]
        omega
end
end Go.Proofs.YtkglgboncngpbaaGreatDoor
/- Evidence as an argument: its parts and how much it is. -/
namespace Go.Proofs.YtkglgboncngpbaaGreatDoor
open Go.ChangeShapes Go.WideShapes Go.RowKit Go.Deep
section
variable {H : Type} {enc : TypeId × Value → H} {W : World}
theorem cellsFork : Tryz.prog.cellsOf 29 = 26 := by kernel_rfl
set_option maxRecDepth 100000 in
/-- A statement among the parts of an argument. -/
theorem part_stm {fuel : Nat} {cs : List Value} {x : DataW H × List MemPlace} (h : DataW.trod enc Tryz.prog W 0 (fun _ => true) true fuel 27 cs = some x) :
    ∃ (s : Stm) (A : Option Addr) (n c : Nat) (B : Option Addr) (m k : Nat), cs = [.int .i64 s.author, .int .i64 s.number, .string s.prev, .int .i64 s.time, .int .i64 s.kind, .int .i64 s.a, .int .i64 s.b, .int .i64 s.c, .slice A n c, .slice B m k, .string s.body, .int .i64 s.key, .string s.dig] ∧ IRow W A n c s.list ∧ PRow W B m k s.pins ∧ (pinsBs s.pins).length ≤ 24 * s.pins.length + Rows.uptoBulk x.1 ∧ s.dig.size ≤ Rows.uptoBulk x.1 := by
  obtain ⟨xs, n, _, hx, hcl, hlen, hg⟩ := DataW.trod_struct Tryz.underlying27 h
  rw [cellsStm] at hcl
  match cs, hcl with
  | [c0, c1, c2, c3, c4, c5, c6, c7, c8, c9, c10, c11, c12], _ =>
    match xs, hlen with
    | [y0, y1, y2, y3, y4, y5, y6, y7, y8, y9, y10, y11], _ =>
      have g0 : DataW.trod enc Tryz.prog W 0 (fun _ => true) true n 3 [c0] = some y0 := part_at (k := 0) cellsInt (hg 0 _ rfl) rfl
      have g1 : DataW.trod enc Tryz.prog W 0 (fun _ => true) true n 3 [c1] = some y1 := part_at (k := 1) cellsInt (hg 1 _ rfl) rfl
      have g2 : DataW.trod enc Tryz.prog W 0 (fun _ => true) true n 9 [c2] = some y2 := part_at (k := 2) cellsStr (hg 2 _ rfl) rfl
      have g3 : DataW.trod enc Tryz.prog W 0 (fun _ => true) true n 3 [c3] = some y3 := part_at (k := 3) cellsInt (hg 3 _ rfl) rfl
      have g4 : DataW.trod enc Tryz.prog W 0 (fun _ => true) true n 3 [c4] = some y4 := part_at (k := 4) cellsInt (hg 4 _ rfl) rfl
      have g5 : DataW.trod enc Tryz.prog W 0 (fun _ => true) true n 3 [c5] = some y5 := part_at (k := 5) cellsInt (hg 5 _ rfl) rfl
      have g6 : DataW.trod enc Tryz.prog W 0 (fun _ => true) true n 3 [c6] = some y6 := part_at (k := 6) cellsInt (hg 6 _ rfl) rfl
      have g7 : DataW.trod enc Tryz.prog W 0 (fun _ => true) true n 3 [c7] = some y7 := part_at (k := 7) cellsInt (hg 7 _ rfl) rfl
      have g8 : DataW.trod enc Tryz.prog W 0 (fun _ => true) true n 22 [c8] = some y8 := part_at (k := 8) cellsInts (hg 8 _ rfl) rfl
      have g9 : DataW.trod enc Tryz.prog W 0 (fun _ => true) true n 23 [c9] = some y9 := part_at (k := 9) cellsPins (hg 9 _ rfl) rfl
      have g10 : DataW.trod enc Tryz.prog W 0 (fun _ => true) true n 9 [c10] = some y10 := part_at (k := 10) cellsStr (hg 10 _ rfl) rfl
      have g11 : DataW.trod enc Tryz.prog W 0 (fun _ => true) true n 25 [c11, c12] = some y11 := part_at (k := 11) cellsSeal (hg 11 _ rfl) rfl
      obtain ⟨a0, e0, _, _⟩ := DataW.trod_int Tryz.underlying3 g0
      obtain ⟨a1, e1, _, _⟩ := DataW.trod_int Tryz.underlying3 g1
      obtain ⟨a2, e2, _, _⟩ := DataW.trod_string Tryz.underlying9 g2
      obtain ⟨a3, e3, _, _⟩ := DataW.trod_int Tryz.underlying3 g3
      obtain ⟨a4, e4, _, _⟩ := DataW.trod_int Tryz.underlying3 g4
      obtain ⟨a5, e5, _, _⟩ := DataW.trod_int Tryz.underlying3 g5
      obtain ⟨a6, e6, _, _⟩ := DataW.trod_int Tryz.underlying3 g6
      obtain ⟨a7, e7, _, _⟩ := DataW.trod_int Tryz.underlying3 g7
      obtain ⟨A, n8, k8, l8, e8, r8⟩ := part_ints g8
      obtain ⟨B, n9, k9, l9, e9, r9, b9⟩ := part_pins g9
      obtain ⟨a10, e10, _, _⟩ := DataW.trod_string Tryz.underlying9 g10
      obtain ⟨xs2, n2, _, hx2, _, hlen2, hg2⟩ := DataW.trod_struct Tryz.underlying25 g11
      match xs2, hlen2 with
      | [z0, z1], _ =>
        have q0 : DataW.trod enc Tryz.prog W 0 (fun _ => true) true n2 3 [c11] = some z0 := part_at (k := 0) cellsInt (hg2 0 _ rfl) rfl
        have q1 : DataW.trod enc Tryz.prog W 0 (fun _ => true) true n2 9 [c12] = some z1 := part_at (k := 1) cellsStr (hg2 1 _ rfl) rfl
        obtain ⟨a11, e11, f11, _⟩ := DataW.trod_int Tryz.underlying3 q0
        obtain ⟨a12, e12, f12, _⟩ := DataW.trod_string Tryz.underlying9 q1
        injection e0 with e0 _; injection e1 with e1 _; injection e2 with e2 _; injection e3 with e3 _; injection e4 with e4 _; injection e5 with e5 _; injection e6 with e6 _; injection e7 with e7 _
        injection e10 with e10 _; injection e11 with e11 _; injection e12 with e12 _
        refine ⟨⟨a0, a1, a2, a3, a4, a5, a6, a7, l8, l9, a10, a11, a12⟩, A, n8, k8, B, n9, k9, by rw [e0, e1, e2, e3, e4, e5, e6, e7, e8, e9, e10, e11, e12], r8, r9, ?_, ?_⟩
        · rw [hx]
          simp only [List.map_cons, List.map_nil, Rows.uptoBulk, Rows.uptoBulkAll]
          omega
        · rw [hx]
          simp only [List.map_cons, List.map_nil, Rows.uptoBulk, Rows.uptoBulkAll]
          rw [hx2]
          simp only [List.map_cons, List.map_nil, Rows.uptoBulk, Rows.uptoBulkAll]
          rw [f12]
          simp only [Rows.uptoBulk, str_len]
          omega
set_option maxRecDepth 100000 in
/-- Evidence that came in. -/
theorem open_fork {base : Nat} {v : Value} {d : DataW H} {p : List MemPlace} (hval : Value.okWide Tryz.prog W .any base 29 v) (h : DataW.Trod enc Tryz.prog W 0 (fun _ => true) true 29 v d p) :
    ∃ (s : Stm) (A : Option Addr) (n c : Nat) (B : Option Addr) (m k : Nat) (t : Stm) (A2 : Option Addr) (n2 c2 : Nat) (B2 : Option Addr) (m2 k2 : Nat), v = forkV s A n c B m k t A2 n2 c2 B2 m2 k2 ∧ IRow W A n c s.list ∧ PRow W B m k s.pins ∧ IRow W A2 n2 c2 t.list ∧ PRow W B2 m2 k2 t.pins ∧
      (pinsBs s.pins).length ≤ 24 * s.pins.length + Rows.uptoBulk d ∧ (pinsBs t.pins).length ≤ 24 * t.pins.length + Rows.uptoBulk d ∧ s.dig.size ≤ Rows.uptoBulk d ∧ t.dig.size ≤ Rows.uptoBulk d := by
  obtain ⟨cs, rfl, hsz⟩ := okWide_struct Tryz.underlying29 hval
  obtain ⟨l⟩ := cs
  obtain ⟨fuel, hf⟩ := h
  obtain ⟨xs, n, _, hx, _, hlen, hg⟩ := DataW.trod_struct Tryz.underlying29 hf
  match xs, hlen with
  | [y0, y1], _ =>
    have hl26 : l.length = 26 := hsz.trans cellsFork
    have g0 : DataW.trod enc Tryz.prog W 0 (fun _ => true) true n 27 (List.take 13 (List.drop 0 l)) = some y0 := part_at (k := 0) cellsStm (hg 0 _ rfl) rfl
    have g1 : DataW.trod enc Tryz.prog W 0 (fun _ => true) true n 27 (List.take 13 (List.drop 13 l)) = some y1 := part_at (k := 13) cellsStm (hg 1 _ rfl) rfl
    obtain ⟨s, A, n1, c, B, m, k, e0, r1, r2, b1, b2⟩ := part_stm g0
    obtain ⟨t, A2, n2, c2, B2, m2, k2, e1, r3, r4, b3, b4⟩ := part_stm g1
    have hl : l = List.take 13 (List.drop 0 l) ++ List.take 13 (List.drop 13 l) := by
      rw [List.drop_zero, List.take_of_length_le (l := List.drop 13 l) (by rw [List.length_drop]; omega), List.take_append_drop]
    have hxd := congrArg Prod.fst hx
    simp only at hxd
    have hd : Rows.uptoBulk d = Rows.uptoBulk (DataW.agg ([y0, y1].map Prod.fst)) := congrArg Rows.uptoBulk hxd
    simp only [List.map_cons, List.map_nil, Rows.uptoBulk, Rows.uptoBulkAll] at hd
    refine ⟨s, A, n1, c, B, m, k, t, A2, n2, c2, B2, m2, k2, ?_, r1, r2, r3, r4, by omega, by omega, by omega, by omega⟩
    rw [hl, e0, e1]
    rfl
end
end Go.Proofs.YtkglgboncngpbaaGreatDoor
