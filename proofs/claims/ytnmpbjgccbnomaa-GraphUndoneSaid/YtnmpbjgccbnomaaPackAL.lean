import Derived.Test.YtnmpbjgccbnomaaPackAK
import Derived.Test.YtnmpbjgccbnomaaPackAA
import Derived.Test.YtnmpbjgccbnomaaRows
import Derived.Deep.Slices
import Derived.Deep.Fields
import Derived.ChangeSame
import Derived.Test.YtnmpbjgccbnomaaPackAD
import Derived.Test.YtnmpbjgccbnomaaGWithP
import Derived.Test.YtnmpbjgccbnomaaPackAC
import Derived.Test.YtnmpbjgccbnomaaPackAH
import Derived.Test.YtnmpbjgccbnomaaPackAG
import Derived.Test.YtnmpbjgccbnomaaPackAB
import Derived.Deep.CutBlock
import Derived.Deep.DeepCutAuto
/- A statement that came in as an argument: its parts and how much it is. -/
namespace Go.Proofs.Ytnmpbjgccbnomaa
open Go.ChangeShapes Go.WideShapes Go.RowKit Go.Deep
section
variable {H : Type} {enc : TypeId × Value → H} {W : World}
theorem cellsInt : Try.prog.cellsOf 3 = 1 := by kernel_rfl
theorem cellsInts : Try.prog.cellsOf 23 = 1 := by kernel_rfl
theorem part_at {t : TypeId} {n k z : Nat} {cs l : List Value} {y : Option (DataW H × List MemPlace)} (hc : Try.prog.cellsOf t = z) (h : DataW.trod enc Try.prog W 0 (fun _ => true) true n t (List.take (Try.prog.cellsOf t) (List.drop k cs)) = y) (hd : List.take z (List.drop k cs) = l) :
    DataW.trod enc Try.prog W 0 (fun _ => true) true n t l = y := by
  rw [hc, hd] at h; exact h
/-- A slice of ints among the parts of an argument. -/
theorem part_ints {fuel : Nat} {v : Value} {x : DataW H × List MemPlace} (h : DataW.trod enc Try.prog W 0 (fun _ => true) true fuel 23 [v] = some x) :
    ∃ (A : Option Addr) (n c : Nat) (l : List Int), v = .slice A n c ∧ IRow W A n c l := by
  rcases open_ints Try.underlying23 Try.underlying3 cellsInt h with ⟨hcs, hx⟩ | ⟨a, len, cap, zs, hcs, _, hl, hm, hz, hx, hcell, hwz⟩
  · injection hcs with e _
    exact ⟨none, 0, 0, [], e, Row.nilRow _ _⟩
  · injection hcs with e _
    simp only [if_true] at hz
    refine ⟨some a, len, cap, zs.take len, e, ⟨by rw [intsV_len, List.length_take]; omega, hl, fun e => (by cases e), fun ad e h0 => ?_⟩⟩
    injection e with e; subst e
    obtain ⟨ab, ao, spot⟩ := a
    have hspot : spot = none := by simpa [Addr.add] using World.cell?_spot (hcell 0 (by omega))
    subst hspot
    refine ⟨ab, ao, rfl, fun i hi => ?_⟩
    rw [Nat.mul_one] at hi
    have := hcell i (by omega)
    rw [Addr.add_lit] at this
    rw [this, intsV, List.getElem?_map, List.getElem?_take, if_pos hi, List.getElem?_eq_getElem (by omega)]
    simp [show i < zs.length by omega, iv]
end
end Go.Proofs.Ytnmpbjgccbnomaa
/- Graphs and edges that came in as arguments. -/
namespace Go.Proofs.Ytnmpbjgccbnomaa
open Go.RowKit
open Go.ChangeShapes Go.WideShapes Go.Deep
section
variable {H : Type} {enc : TypeId × Value → H} {W : World}
theorem cellsEdge : Try.prog.cellsOf 27 = 3 := by kernel_rfl
theorem cellsGraph : Try.prog.cellsOf 25 = 3 := by kernel_rfl
theorem cellsEdges : Try.prog.cellsOf 22 = 1 := by kernel_rfl
set_option maxRecDepth 100000 in
/-- An edge among the parts of an argument. -/
theorem part_edge {fuel : Nat} {cs : List Value} {x : DataW H × List MemPlace} (h : DataW.trod enc Try.prog W 0 (fun _ => true) true fuel 27 cs = some x) : ∃ e : Edg, cs = e.cells := by
  obtain ⟨xs, n, _, _, hlen, hxl, hg⟩ := DataW.trod_struct Try.underlying27 h
  rw [cellsEdge] at hlen
  match cs, hlen with
  | [c0, c1, c2], _ =>
    match xs, hxl with
    | [y0, y1, y2], _ =>
      have g0 : DataW.trod enc Try.prog W 0 (fun _ => true) true n 3 [c0] = some y0 := part_at (k := 0) cellsInt (hg 0 _ rfl) rfl
      have g1 : DataW.trod enc Try.prog W 0 (fun _ => true) true n 3 [c1] = some y1 := part_at (k := 1) cellsInt (hg 1 _ rfl) rfl
      have g2 : DataW.trod enc Try.prog W 0 (fun _ => true) true n 3 [c2] = some y2 := part_at (k := 2) cellsInt (hg 2 _ rfl) rfl
      obtain ⟨a0, e0, _, _⟩ := DataW.trod_int Try.underlying3 g0
      obtain ⟨a1, e1, _, _⟩ := DataW.trod_int Try.underlying3 g1
      obtain ⟨a2, e2, _, _⟩ := DataW.trod_int Try.underlying3 g2
      injection e0 with e0 _; injection e1 with e1 _; injection e2 with e2 _
      exact ⟨⟨a0, a1, a2⟩, by rw [e0, e1, e2]; rfl⟩
/-- A slice of edges among the parts of an argument. -/
theorem part_edges {fuel : Nat} {v : Value} {x : DataW H × List MemPlace} (h : DataW.trod enc Try.prog W 0 (fun _ => true) true fuel 22 [v] = some x) :
    ∃ (A : Option Addr) (n c : Nat) (l : List Edg), v = .slice A n c ∧ ERow W A n c l := by
  rcases open_slice Try.underlying22 h with ⟨hcs, hx⟩ | ⟨a, len, cap, m, n, D, Q, hcs, _, hl, _, hm, _, hi⟩
  · injection hcs with e _
    exact ⟨none, 0, 0, [], e, Row.nilRow _ _⟩
  · injection hcs with e _
    simp only [if_true] at hm
    subst hm
    rw [cellsEdge] at hi
    have hall : ∀ i, ∃ p : Edg, i < m → ∀ j, j < 3 → W.cell? (a.add (i * 3 + j)) = p.cells[j]? := fun i => by
      by_cases hlt : i < m
      · obtain ⟨cs', hc, ht⟩ := hi i hlt
        obtain ⟨p, hp⟩ := part_edge ht
        obtain ⟨_, _, hat⟩ := World.cells?_some hc
        refine ⟨p, fun _ j hj => ?_⟩
        rw [← Go.Deep.add_add, hat j hj, hp]
      · exact ⟨noEdg, fun h => absurd h hlt⟩
    obtain ⟨P, hP⟩ := Classical.skolem.1 hall
    refine ⟨some a, len, m, (List.range len).map P, e, ⟨by rw [rowC_len Edg.len, List.length_map, List.length_range], hl, fun e => (by cases e), fun ad e h0 => ?_⟩⟩
    injection e with e; subst e
    obtain ⟨ab, ao, spot⟩ := a
    have hspot : spot = none := by
      have := hP 0 (by omega) 0 (by omega)
      simpa [Addr.add] using World.cell?_spot (this.trans rfl)
    subst hspot
    refine ⟨ab, ao, rfl, fun i hi => ?_⟩
    have hq : i / 3 < len := by omega
    have h1 := hP (i / 3) (by omega) (i % 3) (by omega)
    rw [Addr.add_lit, show i / 3 * 3 + i % 3 = i by omega] at h1
    rw [h1]
    have h2 : ∀ j, (rowC Edg.cells ((List.range len).map P))[i / 3 * 3 + j]? = (rowC Edg.cells (((List.range len).map P).drop (i / 3)))[j]? := fun j => by rw [← rowC_drop Edg.len, List.getElem?_drop]
    have h3 := h2 (i % 3)
    rw [show i / 3 * 3 + i % 3 = i by omega] at h3
    rw [h3, List.drop_eq_getElem_cons (by simpa using hq)]
    simp only [List.getElem_map, List.getElem_range]
    show _ = ((P (i / 3)).cells ++ rowC Edg.cells _)[i % 3]?
    rw [List.getElem?_append_left (by show i % 3 < 3; omega)]
set_option maxRecDepth 100000 in
/-- An edge that came in. -/
theorem open_edge {base : Nat} {v : Value} {d : DataW H} {p : List MemPlace} (hval : Value.okWide Try.prog W .any base 27 v) (h : DataW.Trod enc Try.prog W 0 (fun _ => true) true 27 v d p) : ∃ e : Edg, v = .agg e.arr := by
  obtain ⟨cs, rfl, hsz⟩ := okWide_struct Try.underlying27 hval
  obtain ⟨l⟩ := cs
  obtain ⟨fuel, hf⟩ := h
  obtain ⟨e, he⟩ := part_edge (cs := l) hf
  exact ⟨e, by rw [he]; rfl⟩
set_option maxRecDepth 100000 in
/-- A graph that came in. -/
theorem open_graph {base : Nat} {v : Value} {d : DataW H} {p : List MemPlace} (hval : Value.okWide Try.prog W .any base 25 v) (h : DataW.Trod enc Try.prog W 0 (fun _ => true) true 25 v d p) : ∃ G : Gr, GHold W G v := by
  obtain ⟨cs, rfl, hsz⟩ := okWide_struct Try.underlying25 hval
  obtain ⟨l⟩ := cs
  match l, hsz.trans cellsGraph with
  | [c0, c1, c2], _ =>
    obtain ⟨fuel, hf⟩ := h
    obtain ⟨xs, n, _, hx, _, hlen, hg⟩ := DataW.trod_struct Try.underlying25 hf
    match xs, hlen with
    | [y0, y1, y2], _ =>
      have g0 : DataW.trod enc Try.prog W 0 (fun _ => true) true n 3 [c0] = some y0 := part_at (k := 0) cellsInt (hg 0 _ rfl) rfl
      have g1 : DataW.trod enc Try.prog W 0 (fun _ => true) true n 22 [c1] = some y1 := part_at (k := 1) cellsEdges (hg 1 _ rfl) rfl
      have g2 : DataW.trod enc Try.prog W 0 (fun _ => true) true n 23 [c2] = some y2 := part_at (k := 2) cellsInts (hg 2 _ rfl) rfl
      obtain ⟨a0, e0, _, _⟩ := DataW.trod_int Try.underlying3 g0
      obtain ⟨A, n1, k1, l1, e1, r1⟩ := part_edges g1
      obtain ⟨B, n2, k2, l2, e2, r2⟩ := part_ints g2
      injection e0 with e0 _
      exact ⟨⟨a0, l1, l2⟩, A, n1, k1, B, n2, k2, by rw [e0, e1, e2], r1, r2⟩
end
end Go.Proofs.Ytnmpbjgccbnomaa
/-
  PROVED: for every input the law GraphRaw returns true and leaves its arguments as they were. Conditions: none but the row's own.
-/
namespace Go.Proofs.Ytnmpbjgccbnomaa.graphRaw
open Go.ChangeShapes Go.WideShapes Go.ChangeAt Go.RowKit
theorem own : ownKnob Try.prog.godebug = none := by kernel_rfl
theorem laidOut : laidOutB Try.prog = true := by kernel_rfl
theorem cellsI : Try.prog.cellsOf 3 = 1 := by kernel_rfl
set_option maxRecDepth 100000 in
theorem lifted (H11 : GraphS) (os : Os) (started : os.Started) (H : Type) (enc : TypeId × Value → H) :
    ReturnsInHanded {} Try.checked os 3 .any (Rows.graphRawSpec.pre6 enc Try.prog Try.f3 Rows.graphRawRow.domain false) (Rows.graphRawSpec.post enc Try.prog Try.f3 false true false false) := by
  refine returnsInHanded_of_change (C := Try.checked) own started (by kernel_rfl) Try.func3
    (ChangeSpec.witness6 (enc := enc) (C := Try.checked) false ⟨#[], #[.agg #[.int .i64 0, .slice none 0 0, .slice none 0 0], .agg #[.int .i64 0, .int .i64 0, .int .i64 0], .agg #[.int .i64 0, .slice none 0 0, .slice none 0 0]], []⟩ 8 (by kernel_rfl) (by kernel_rfl) (by kernel_rfl) (by kernel_rfl)) ?_
  intro W base args ds gs before hval hW _ _
  have hW' := hW
  obtain ⟨p, q, hA, hV, rfl, _, _⟩ := hW
  rw [Try.params3] at hA hval
  obtain ⟨v0, v1, v2, d0, d1, d2, p0, p1, p2, rfl, rfl, rfl, h0, h1, h2⟩ := trodAll_three hA
  obtain ⟨rfl, rfl⟩ := trodVars_none hV
  obtain ⟨G, hG⟩ := open_graph (hval 0 25 v0 rfl rfl) h0
  obtain ⟨x, rfl⟩ := open_edge (hval 1 27 v1 rfl rfl) h1
  obtain ⟨O, hO⟩ := open_graph (hval 2 25 v2 rfl rfl) h2
  refine (graw_any H11 G O _ _ x W hG hO).mono fun e W' ⟨he, hb⟩ => ?_
  subst he
  exact law_post laidOut (by kernel_rfl) Try.underlying4 (by kernel_rfl) rfl hW' rfl hb
theorem over (H11 : GraphS) : Rows.GraphRawSaid :=
  OpenClaim.holds_of_wide 3 Try.f3 rfl rfl rfl rfl rfl rfl rfl ⟨rfl, rfl, rfl, rfl, rfl⟩ rfl rfl rfl rfl rfl (by kernel_rfl) Try.func3 (by kernel_rfl)
    (of_decide_eq_true (by kernel_rfl)) (by unfold Func.isWrapper; first | (rw [if_pos (by decide +kernel)]; kernel_rfl) | (rw [if_neg (by decide +kernel)]; exact ⟨rfl, rfl⟩))
    (fun os started H enc _ => lifted H11 os started H enc)
end Go.Proofs.Ytnmpbjgccbnomaa.graphRaw
/- Graphs: the walk of the reference's Level. -/
namespace Go.Proofs.Ytnmpbjgccbnomaa
open Go.RowKit
end Go.Proofs.Ytnmpbjgccbnomaa
/- Graphs: the walk of the reference's At. -/
namespace Go.Proofs.Ytnmpbjgccbnomaa
open Go.RowKit
/-- What is there stays, but for block g; below block g all stays. -/
def Midst (g n : Nat) (a b : World) : Prop := Below g a b ∧ ∀ k, k < n → k ≠ g → b.heap[k]? = a.heap[k]?
theorem Midst.refl (g n : Nat) (a : World) : Midst g n a a := ⟨Below.refl _ _, fun _ _ _ => rfl⟩
theorem Midst.trans {g n : Nat} {a b c : World} (h : Midst g n a b) (k : Midst g n b c) : Midst g n a c := ⟨h.1.trans k.1, fun i hi hg => (k.2 i hi hg).trans (h.2 i hi hg)⟩
theorem Midst.of {g n : Nat} {a b : World} (h : Below n a b) (hg : g ≤ n) : Midst g n a b := ⟨h.mono hg, fun i hi _ => h.block i hi⟩
theorem Midst.cell {g n : Nat} (a : World) (i : Nat) (v : Value) : Midst g n a (a.setCell ⟨g, i, none⟩ v) := ⟨(Below.refl _ _).setCell (p := ⟨g, i, none⟩) (Nat.le_refl g) v, fun k _ hk => Below.heap_setCell a ⟨g, i, none⟩ v k hk⟩
theorem Midst.drew {g n : Nat} {a b : World} (h : Midst g n a b) : Midst g n a b.drew := ⟨h.1.drew, h.2⟩
end Go.Proofs.Ytnmpbjgccbnomaa
/- Plain facts on the graph of a time. -/
namespace Go.Proofs.Ytnmpbjgccbnomaa
open Go.RowKit
theorem getDI {l : List Int} {i : Nat} (h : i < l.length) : l.getD i 0 = l[i] := by rw [List.getD_eq_getElem?_getD, List.getElem?_eq_getElem h]; rfl
theorem hasI_iff (x : Int) : ∀ l : List Int, hasI l x = true ↔ x ∈ l
  | [] => ⟨fun h => (nomatch h), fun h => (nomatch h)⟩
  | a :: l => by
    rw [List.mem_cons, hasI]
    split
    · rename_i h; exact ⟨fun _ => .inl h.symm, fun _ => rfl⟩
    · rename_i h
      rw [hasI_iff x l]
      exact ⟨.inr, fun h2 => h2.elim (fun h3 => absurd h3.symm h) id⟩
end Go.Proofs.Ytnmpbjgccbnomaa
/- The walk of the dice's Spoil. -/
namespace Go.Proofs.Ytnmpbjgccbnomaa
open Go.RowKit
end Go.Proofs.Ytnmpbjgccbnomaa
/- The walks of the dice's Lists and Store. -/
namespace Go.Proofs.Ytnmpbjgccbnomaa
open Go.RowKit
end Go.Proofs.Ytnmpbjgccbnomaa
