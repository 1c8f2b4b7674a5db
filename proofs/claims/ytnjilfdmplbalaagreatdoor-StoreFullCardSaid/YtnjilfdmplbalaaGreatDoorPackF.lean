import Derived.RangeFuncNested
import Derived.RangeFuncBound
import Derived.RangeFuncCalls
import Derived.RangeFuncLeaves
import Derived.Shelf.Abstract
import Derived.WalkKit
import Derived.OwnWalkIn
import Derived.TacticsInMore
import Derived.LoopNIn
import Derived.LoopIn
import Derived.Test.YtnjilfdmplbalaaGreatDoorStms
import Derived.Test.YtnjilfdmplbalaaGreatDoorBehind
import Derived.RangeFuncBox
import Derived.Test.YtnjilfdmplbalaaGreatDoorPackC
/- The walk of what chain.known's back returns, as a range over it goes through it. -/
namespace Go.Proofs.YtnjilfdmplbalaaGreatDoor
open Go.RowKit
attribute [local go_sem] Oper.semAt_some
/-- The way back from a digest, as long as statements are there. -/
def Way (l : List Stm) : List Stm → ByteArray → Prop
  | [], d => ∀ p ∈ l.map pairS, p.1 ≠ d
  | x :: xs, d => x ∈ l ∧ x.dig = d ∧ (∀ y ∈ xs.head?, behindB y x = true) ∧ Way l xs x.prev
/-- Whether a list has elements. -/
def someL : List Stm → Bool
  | [] => false
  | _ :: _ => true
def wayLeft (B : Nat) (p : Value) (w : World) : Nat :=
  match p, w.cell? ⟨B, 1, none⟩ with
  | .bool true, some (.int _ k) => k.toNat + 1
  | _, _ => 0
theorem wpListIn_store_row {F : Fence} {n : Nat} {P : Program} {ops : Array Oper} {rest : List Oper} {o : Oper} {a : Act} {w : World} {Q : Exit → Act → World → Prop} (hgd : o.guard = none) (ty : TypeId) (x y : Operand) (ho : o.op = .store ty x y)
    (g : Nat) (cells : Array Value) (hx : a.eval x = .pointer (some ⟨g, 0, none⟩)) (hy : a.eval y = .agg cells)
    (t : TypeId) (old : Array Value) (hg : w.heap[g]? = some (.cells old t (0, 0))) (hi : (P.info? ty).map (·.size) = some cells.size)
    (hold : old.size = cells.size) (h1 : cells.all (·.oneCell') = true)
    (h : wpListIn F n P ops Q rest (a.put o.dst undef) (w.setRow g cells)) : wpListIn F n P ops Q (o :: rest) a w := by
  refine wpListIn_plain hgd fun K hK' => ?_
  unfold Oper.wpIn
  refine ⟨?_, ?_⟩
  · simp [Oper.about, ho]
  · rw [Oper.semAt_plain F _ _ (by rw [ho]; intro c hc'; cases hc')]
    simp only [execOp, ho, hx, hy, Instr.storeAt, Instr.sureAddr, Sem.run_bind, Sem.run_pure, Result.andThen_ok, run_storeVar_row w g t ty old cells hg hi hold h1]
    exact hK' _ _ h
theorem wpListIn_load_row {F : Fence} {n : Nat} {P : Program} {ops : Array Oper} {rest : List Oper} {o : Oper} {a : Act} {w : World} {Q : Exit → Act → World → Prop} (hgd : o.guard = none) (ty : TypeId) (x : Operand) (ho : o.op = .load ty x)
    (g : Nat) (hx : a.eval x = .pointer (some ⟨g, 0, none⟩)) (t : TypeId) (cs : Array Value) (fr : Nat × Nat) (d : TypeDesc) (hg : w.heap[g]? = some (.cells cs t fr))
    (hu : P.underlying ty = some d) (hd : (match d with | .struct _ | .array _ _ => true | _ => false) = true) (hi : (P.info? ty).map (·.size) = some cs.size)
    (h : wpListIn F n P ops Q rest (a.put o.dst (.agg cs)) w) : wpListIn F n P ops Q (o :: rest) a w := by
  refine wpListIn_plain hgd fun K hK' => ?_
  unfold Oper.wpIn
  refine ⟨?_, ?_⟩
  · simp [Oper.about, ho]
  · rw [Oper.semAt_plain F _ _ (by rw [ho]; intro c hc'; cases hc')]
    simp only [execOp, ho, hx, Instr.loadAt, Instr.sureAddr, Sem.run_bind, Sem.run_pure, Result.andThen_ok, run_loadVar_row w g t ty cs fr d hg hu hd hi]
    exact hK' _ _ h
theorem split_digB {l : List Stm} (hd : (l.map (·.dig)).Nodup) {s : Stm} (hs : s ∈ l) : ∃ l1 l2, l.map pairS = l1 ++ (s.dig, stmV s none 0 0 none 0 0) :: l2 ∧ ∀ p ∈ l1, p.1 ≠ s.dig := by
  obtain ⟨a, b, rfl⟩ := List.append_of_mem hs
  refine ⟨a.map pairS, b.map pairS, by simp [pairS], fun p hp e => ?_⟩
  obtain ⟨q, hq, rfl⟩ := List.mem_map.1 hp
  rw [List.map_append, List.nodup_append] at hd
  exact hd.2.2 q.dig (List.mem_map_of_mem hq) s.dig (by simp) e
theorem But.of_rowB (D : Nat) (w : World) (cs : Array Value) : But D w (w.setRow D cs) := ⟨rfl, rfl, rfl, (below_setRow (Below.refl D w) (Nat.le_refl _) cs).size, fun _ _ hne => setRow_other _ _ _ _ hne⟩
theorem way_head {l xs : List Stm} {x : Stm} {d : ByteArray} (h : Way l (x :: xs) d) : x ∈ l ∧ x.dig = d ∧ (∀ y ∈ xs.head?, behindB y x = true) ∧ Way l xs x.prev := h
/-- What the iterator reads lies as it lay. -/
structure SameFour (k d m B : Nat) (w w' : World) : Prop where
  size : w.heap.size ≤ w'.heap.size
  k : w'.heap[k]? = w.heap[k]?
  d : w'.heap[d]? = w.heap[d]?
  m : w'.heap[m]? = w.heap[m]?
  b : w'.heap[B]? = w.heap[B]?
theorem SameFour.trans {k d m B : Nat} {a b c : World} (h : SameFour k d m B a b) (g : SameFour k d m B b c) : SameFour k d m B a c :=
  ⟨Nat.le_trans h.size g.size, g.k.trans h.k, g.d.trans h.d, g.m.trans h.m, g.b.trans h.b⟩
/-- What the iterator's blocks hold. -/
structure BackAt (k d m : Nat) (l : List Stm) (dg : ByteArray) (w : World) : Prop where
  k : w.heap[k]? = some (.cells #[.map (some m)] 110 (0, 0))
  d : w.heap[d]? = some (.cells #[.string dg] 9 (0, 0))
  m : MapAt w m (l.map pairS)
theorem BackAt.later {k d m : Nat} {l : List Stm} {dg : ByteArray} {w w' : World} (h : BackAt k d m l dg w) (hb : Below w.heap.size w w') : BackAt k d m l dg w' :=
  ⟨(hb.block _ (Array.getElem?_eq_some_iff.1 h.k).1).trans h.k, (hb.block _ (Array.getElem?_eq_some_iff.1 h.d).1).trans h.d, h.m.later hb⟩
theorem BackAt.same {k d m B : Nat} {l : List Stm} {dg : ByteArray} {w w' : World} (h : BackAt k d m l dg w) (hb : SameFour k d m B w w') : BackAt k d m l dg w' :=
  ⟨hb.k.trans h.k, hb.d.trans h.d, hb.m.trans h.m⟩
theorem BackAt.but {k d m D : Nat} {l : List Stm} {dg : ByteArray} {w w' : World} (h : BackAt k d m l dg w) (hb : But D w w') (hk : k ≠ D) (hd : d ≠ D) (hm : m ≠ D) : BackAt k d m l dg w' :=
  ⟨(hb.block _ (Array.getElem?_eq_some_iff.1 h.k).1 hk).trans h.k, (hb.block _ (Array.getElem?_eq_some_iff.1 h.d).1 hd).trans h.d, h.m.but hb hm⟩
set_option maxRecDepth 100000 in
set_option maxHeartbeats 4000000 in
theorem back1_in (au : Int) (n : Nat) (hn : 1 ≤ n) (lp Bk Bd bm : Nat) (l : List Stm) (hg : Good au l) (d : ByteArray) (xs : List Stm) (hx : Way l xs d) (J : List Stm → World → Prop) (W : World)
    (hJ : ∀ s X Y, J s X → But W.heap.size X Y → J s Y)
    (hY : ∀ pre x X, J pre X → pre.length < xs.length → W.heap.size < X.heap.size → YieldAt Fence.wide (n - 1) Tryz.prog lp #[stmV x none 0 0 none 0 0] X fun e X' => e = .returned (.bool true) ∧ J (pre ++ [x]) X' ∧ SameFour Bk Bd bm W.heap.size X X')
    (hw : BackAt Bk Bd bm l d W) (h0 : J [] W) :
    CallsIn Fence.wide n Tryz.prog 127 #[.func (.yield lp) #[] #[], .pointer (some ⟨Bk, 0, none⟩), .pointer (some ⟨Bd, 0, none⟩)] W fun e W' => (∃ v, e = .returned v) ∧ J xs W' := by
  have HW := Lib.hid hw; have HG := Lib.hid hg; have HX := Lib.hid hx; have HJ := Lib.hid hJ; have HY := Lib.hid hY; have H0 := Lib.hid h0
  clear hw hg hx hJ hY h0
  have hck : W.cell? ⟨Bk, 0, none⟩ = some (.map (some bm)) := by rw [cell_of_row _ _ _ _ _ _ HW.out.k]; rfl
  have hcd : W.cell? ⟨Bd, 0, none⟩ = some (.string d) := by rw [cell_of_row _ _ _ _ _ _ HW.out.d]; rfl
  have HLN : Hid (∀ x, MapAt x bm (l.map pairS) → ∀ e, Way l [] e → (Instr.lookup 110 (.map (some bm)) (.string e) true).run Tryz.prog x = .ok (.tuple #[.agg #[.int .i64 0, .int .i64 0, .string ⟨#[]⟩, .int .i64 0, .int .i64 0, .int .i64 0, .int .i64 0, .int .i64 0, .slice none 0 0, .slice none 0 0, .string ⟨#[]⟩, .int .i64 0, .string ⟨#[]⟩], .bool false]) x) := Lib.hid fun x hm e hy =>
    run_hasnot2 hm Tryz.underlying110 Tryz.underlying9 (by kernel_rfl) hy
  have HLC : Hid (∀ x, MapAt x bm (l.map pairS) → ∀ y ys e, Way l (y :: ys) e → (Instr.lookup 110 (.map (some bm)) (.string e) true).run Tryz.prog x = .ok (.tuple #[stmV y none 0 0 none 0 0, .bool true]) x) := Lib.hid fun x hm y ys e hy => by
    obtain ⟨h1, rfl, -, -⟩ := way_head hy
    obtain ⟨l1, l2, hl12, hne⟩ := split_digB HG.out.nodup h1
    rw [hl12] at hm
    exact run_has2 hm Tryz.underlying110 Tryz.underlying9 hne
  refine callsIn_of_wp Tryz.func127 rfl trivial ?_ rfl
  simp only [Tryz.ntmps127, List.size_toArray, List.length_cons, List.length_nil, Nat.reduceAdd, Nat.reduceSub, Array.replicate_succ, Array.replicate_zero, List.push_toArray, List.append_toArray, List.nil_append, List.cons_append]
  obtain ⟨z0, hlk, hz0⟩ : ∃ z0 : Stm, (Instr.lookup 110 (.map (some bm)) (.string d) true).run Tryz.prog W = .ok (.tuple #[stmV z0 none 0 0 none 0 0, .bool (someL xs)]) W ∧ (∀ y ys, xs = y :: ys → z0 = y) := by
    cases xs with
    | nil => exact ⟨noStm, HLN.out W HW.out.m d HX.out, fun _ _ h => by cases h⟩
    | cons y ys => exact ⟨y, HLC.out W HW.out.m y ys d HX.out, fun _ _ h => by injection h with h _⟩
  unfold stmV at hlk
  gi_wp2
  have HK0 : Hid (W.heap.size < (W.alloc (.cells #[.int .i64 z0.author, .int .i64 z0.number, .string z0.prev, .int .i64 z0.time, .int .i64 z0.kind, .int .i64 z0.a, .int .i64 z0.b, .int .i64 z0.c, .slice none 0 0, .slice none 0 0, .string z0.body, .int .i64 z0.key, .string z0.dig] 30)).heap.size) := Lib.hid (by simp)
  have HZ0 := Lib.hid hz0
  have HJ0 : Hid (J [] (W.alloc (.cells #[.int .i64 z0.author, .int .i64 z0.number, .string z0.prev, .int .i64 z0.time, .int .i64 z0.kind, .int .i64 z0.a, .int .i64 z0.b, .int .i64 z0.c, .slice none 0 0, .slice none 0 0, .string z0.body, .int .i64 z0.key, .string z0.dig] 30))) := Lib.hid (HJ.out _ _ _ H0.out (But.of (one_new W _)))
  have HB0 : Hid (BackAt Bk Bd bm l d (W.alloc (.cells #[.int .i64 z0.author, .int .i64 z0.number, .string z0.prev, .int .i64 z0.time, .int .i64 z0.kind, .int .i64 z0.a, .int .i64 z0.b, .int .i64 z0.c, .slice none 0 0, .slice none 0 0, .string z0.body, .int .i64 z0.key, .string z0.dig] 30))) := Lib.hid (HW.out.later (one_new W _))
  have HC0 := Lib.hid (heap_alloc_new W (.cells #[.int .i64 z0.author, .int .i64 z0.number, .string z0.prev, .int .i64 z0.time, .int .i64 z0.kind, .int .i64 z0.a, .int .i64 z0.b, .int .i64 z0.c, .slice none 0 0, .slice none 0 0, .string z0.body, .int .i64 z0.key, .string z0.dig] 30))
  clear hlk hck hcd hz0 H0
  gi_loopw [5] (fun p wr => ∃ (pre rest : List Stm) (dg : ByteArray) (z : Stm), p = .bool (someL rest) ∧ xs = pre ++ rest ∧ Hid (Way l rest dg ∧ BackAt Bk Bd bm l d wr ∧ J pre wr ∧ wr.heap[W.heap.size]? = some (.cells #[.int .i64 z.author, .int .i64 z.number, .string z.prev, .int .i64 z.time, .int .i64 z.kind, .int .i64 z.a, .int .i64 z.b, .int .i64 z.c, .slice none 0 0, .slice none 0 0, .string z.body, .int .i64 z.key, .string z.dig] 30 (0, 0)) ∧ ∀ y ys, rest = y :: ys → z = y)) (fun p wr => wayLeft W.heap.size p wr)
  case atStart => exact ⟨[], xs, d, z0, rfl, rfl, Lib.hid ⟨HX.out, HB0.out, HJ0.out, HC0.out, HZ0.out⟩⟩
  case round =>
    clear HK0 HZ0 HJ0 HB0 HC0
    obtain ⟨pre, rest, dg, z, rfl, hxs0, HQ⟩ := hrel
    have HXS := Lib.hid hxs0
    clear hxs0
    cases rest with
    | nil =>
      have hd : someL [] = false := rfl
      rw [hd]
      gi_wp2
      refine ⟨fun _ h => (by cases h), ?_⟩
      gi_wp2
      go_end0
      exact ⟨⟨_, rfl⟩, by rw [HXS.out, List.append_nil]; exact HQ.out.2.2.1⟩
    | cons x rest =>
      have hd : someL (x :: rest) = true := rfl
      rw [hd]
      obtain rfl : z = x := HQ.out.2.2.2.2 _ _ rfl
      obtain ⟨hc0, hc1, hc2, hc3, hc4, hc5, hc6, hc7, hc8, hc9, hc10, hc11, hc12⟩ := stm_cells (A := none) (n := 0) (c := 0) (B := none) (m := 0) (k := 0) (s := z) HQ.out.2.2.2.1
      obtain ⟨fn, tmps, assign, body, hy, hR⟩ := HY.out pre z wr HQ.out.2.2.1 (by rw [HXS.out]; simp) (Array.getElem?_eq_some_iff.1 HQ.out.2.2.2.1).1
      unfold stmV at hy
      gi_wp2
      refine hR.mono ?_
      rintro e W3 ⟨rfl, hJ3, hk3⟩
      have HJ3 := Lib.hid hJ3; have HK3 := Lib.hid hk3
      clear hy hR hJ3 hk3 hc0 hc1 hc2 hc3 hc4 hc5 hc6 hc7 hc8 hc9 hc10 hc11 hc12
      have HC3 : Hid (W3.heap[W.heap.size]? = some (.cells #[.int .i64 z.author, .int .i64 z.number, .string z.prev, .int .i64 z.time, .int .i64 z.kind, .int .i64 z.a, .int .i64 z.b, .int .i64 z.c, .slice none 0 0, .slice none 0 0, .string z.body, .int .i64 z.key, .string z.dig] 30 (0, 0))) := Lib.hid (HK3.out.b.trans HQ.out.2.2.2.1)
      have HB3 : Hid (BackAt Bk Bd bm l d W3) := Lib.hid (HQ.out.2.1.same HK3.out)
      obtain ⟨hc0, hc1, hc2, hc3, hc4, hc5, hc6, hc7, hc8, hc9, hc10, hc11, hc12⟩ := stm_cells (A := none) (n := 0) (c := 0) (B := none) (m := 0) (k := 0) (s := z) HC3.out
      have hck : W3.cell? ⟨Bk, 0, none⟩ = some (.map (some bm)) := by rw [cell_of_row _ _ _ _ _ _ HB3.out.k]; rfl
      obtain ⟨W4, hW4⟩ : ∃ W4, W4 = W3.alloc (.cells #[.int .i64 z.author, .int .i64 z.number, .string z.prev, .int .i64 z.time, .int .i64 z.kind, .int .i64 z.a, .int .i64 z.b, .int .i64 z.c, .slice none 0 0, .slice none 0 0, .string z.body, .int .i64 z.key, .string z.dig] 30) := ⟨_, rfl⟩
      have HB4 : Hid (BackAt Bk Bd bm l d W4) := Lib.hid (by rw [hW4]; exact HB3.out.later (one_new _ _))
      have HC4 : Hid (W4.heap[W.heap.size]? = some (.cells #[.int .i64 z.author, .int .i64 z.number, .string z.prev, .int .i64 z.time, .int .i64 z.kind, .int .i64 z.a, .int .i64 z.b, .int .i64 z.c, .slice none 0 0, .slice none 0 0, .string z.body, .int .i64 z.key, .string z.dig] 30 (0, 0))) := Lib.hid (by rw [hW4]; exact (Below.heap_alloc _ _ _ (Array.getElem?_eq_some_iff.1 HC3.out).1).trans HC3.out)
      have HD4 : Hid (W4.heap[W3.heap.size]? = some (.cells #[.int .i64 z.author, .int .i64 z.number, .string z.prev, .int .i64 z.time, .int .i64 z.kind, .int .i64 z.a, .int .i64 z.b, .int .i64 z.c, .slice none 0 0, .slice none 0 0, .string z.body, .int .i64 z.key, .string z.dig] 30 (0, 0))) := Lib.hid (by rw [hW4]; exact heap_alloc_new _ _)
      have HJ4 : Hid (J (pre ++ [z]) W4) := Lib.hid (by rw [hW4]; exact HJ.out _ _ _ HJ3.out (But.of (one_new _ _)))
      have HNE : Hid (W3.heap.size ≠ W.heap.size ∧ Bk ≠ W.heap.size ∧ Bd ≠ W.heap.size ∧ bm ≠ W.heap.size) := Lib.hid ⟨by have := (Array.getElem?_eq_some_iff.1 HC3.out).1; omega, by have := (Array.getElem?_eq_some_iff.1 HW.out.k).1; omega, by have := (Array.getElem?_eq_some_iff.1 HW.out.d).1; omega, by have := HW.out.m.lt; omega⟩
      have hck4 : W4.cell? ⟨Bk, 0, none⟩ = some (.map (some bm)) := by rw [cell_of_row _ _ _ _ _ _ HB4.out.k]; rfl
      obtain ⟨-, -, hd2, -, -, -, -, -, -, -, -, -, -⟩ := stm_cells (A := none) (n := 0) (c := 0) (B := none) (m := 0) (k := 0) (s := z) HD4.out
      rw [hW4] at hck4 hd2
      have hx4 := HC4.out
      rw [hW4] at hx4
      cases rest with
      | nil =>
        have hlk := HLN.out W4 HB4.out.m z.prev HQ.out.1.2.2.2
        rw [hW4] at hlk
        gi_wp2_with (refine wpListIn_store_row rfl 30 (.tmp 4) (.tmp 25) rfl W.heap.size #[.int .i64 0, .int .i64 0, .string ⟨#[]⟩, .int .i64 0, .int .i64 0, .int .i64 0, .int .i64 0, .int .i64 0, .slice none 0 0, .slice none 0 0, .string ⟨#[]⟩, .int .i64 0, .string ⟨#[]⟩] rfl rfl 30 _ hx4 (by kernel_rfl) rfl (by simp [Value.oneCell']) ?_)
        refine ⟨trivial, ?_⟩
        gi_wp2
        rw [← hW4]
        clear hlk hx4 hd2 hck4
        go_roundw
        case rel =>
          have hb := But.of_rowB W.heap.size W4 #[.int .i64 0, .int .i64 0, .string ⟨#[]⟩, .int .i64 0, .int .i64 0, .int .i64 0, .int .i64 0, .int .i64 0, .slice none 0 0, .slice none 0 0, .string ⟨#[]⟩, .int .i64 0, .string ⟨#[]⟩]
          exact ⟨pre ++ [z], [], z.prev, noStm, rfl, by simp [HXS.out], Lib.hid ⟨HQ.out.1.2.2.2, HB4.out.but hb HNE.out.2.1 HNE.out.2.2.1 HNE.out.2.2.2, HJ.out _ _ _ HJ4.out hb, setRow_heap _ _ _ _ _ _ HC4.out, fun _ _ h => by cases h⟩⟩
        case measure =>
          show (0 : Nat) < wayLeft W.heap.size (.bool true) wr
          unfold wayLeft
          rw [(stm_cells (A := none) (n := 0) (c := 0) (B := none) (m := 0) (k := 0) (s := z) HQ.out.2.2.2.1).2.1]
          exact Nat.succ_pos _
      | cons y ys =>
        have hbh : behindB y z = true := HQ.out.1.2.2.1 y rfl
        have hyl : y ∈ l := (way_head HQ.out.1.2.2.2).1
        have hnz := (HG.out.bare z HQ.out.1.1).2.2.2
        have hny := (HG.out.bare y hyl).2.2.2
        have hlk := HLC.out W4 HB4.out.m y ys z.prev HQ.out.1.2.2.2
        unfold stmV at hlk
        rw [hW4] at hlk
        have HC5 : Hid (((W3.alloc (.cells #[.int .i64 z.author, .int .i64 z.number, .string z.prev, .int .i64 z.time, .int .i64 z.kind, .int .i64 z.a, .int .i64 z.b, .int .i64 z.c, .slice none 0 0, .slice none 0 0, .string z.body, .int .i64 z.key, .string z.dig] 30)).setRow W.heap.size #[.int .i64 y.author, .int .i64 y.number, .string y.prev, .int .i64 y.time, .int .i64 y.kind, .int .i64 y.a, .int .i64 y.b, .int .i64 y.c, .slice none 0 0, .slice none 0 0, .string y.body, .int .i64 y.key, .string y.dig]).heap[W.heap.size]? = some (.cells #[.int .i64 y.author, .int .i64 y.number, .string y.prev, .int .i64 y.time, .int .i64 y.kind, .int .i64 y.a, .int .i64 y.b, .int .i64 y.c, .slice none 0 0, .slice none 0 0, .string y.body, .int .i64 y.key, .string y.dig] 30 (0, 0))) := Lib.hid (setRow_heap _ _ _ _ _ _ hx4)
        have HD5 : Hid (((W3.alloc (.cells #[.int .i64 z.author, .int .i64 z.number, .string z.prev, .int .i64 z.time, .int .i64 z.kind, .int .i64 z.a, .int .i64 z.b, .int .i64 z.c, .slice none 0 0, .slice none 0 0, .string z.body, .int .i64 z.key, .string z.dig] 30)).setRow W.heap.size #[.int .i64 y.author, .int .i64 y.number, .string y.prev, .int .i64 y.time, .int .i64 y.kind, .int .i64 y.a, .int .i64 y.b, .int .i64 y.c, .slice none 0 0, .slice none 0 0, .string y.body, .int .i64 y.key, .string y.dig]).heap[W3.heap.size]? = some (.cells #[.int .i64 z.author, .int .i64 z.number, .string z.prev, .int .i64 z.time, .int .i64 z.kind, .int .i64 z.a, .int .i64 z.b, .int .i64 z.c, .slice none 0 0, .slice none 0 0, .string z.body, .int .i64 z.key, .string z.dig] 30 (0, 0))) := Lib.hid ((setRow_other _ _ _ _ HNE.out.1).trans (by rw [← hW4]; exact HD4.out))
        obtain ⟨he0, he1, he2, he3, he4, he5, he6, he7, he8, he9, he10, he11, he12⟩ := stm_cells (A := none) (n := 0) (c := 0) (B := none) (m := 0) (k := 0) (s := y) HC5.out
        obtain ⟨hf0, hf1, hf2, hf3, hf4, hf5, hf6, hf7, hf8, hf9, hf10, hf11, hf12⟩ := stm_cells (A := none) (n := 0) (c := 0) (B := none) (m := 0) (k := 0) (s := z) HD5.out
        have HIB : Hid (∀ x, Calls Tryz.prog 128 #[stmV y none 0 0 none 0 0, stmV z none 0 0 none 0 0] x (SaysL (.bool true) x)) := Lib.hid fun x => by
          have h := isBehind_any y none 0 0 none 0 0 z none 0 0 none 0 0 x ⟨hnz.1, by omega⟩
          rw [hbh] at h
          exact h
        unfold stmV at HIB
        gi_wp2_with (first | (refine wpListIn_store_row rfl 30 (.tmp 4) (.tmp 25) rfl W.heap.size #[.int .i64 y.author, .int .i64 y.number, .string y.prev, .int .i64 y.time, .int .i64 y.kind, .int .i64 y.a, .int .i64 y.b, .int .i64 y.c, .slice none 0 0, .slice none 0 0, .string y.body, .int .i64 y.key, .string y.dig] rfl rfl 30 _ hx4 (by kernel_rfl) rfl (by simp [Value.oneCell']) ?_) | (refine ⟨trivial, ?_⟩; gi_at_call 128; refine (callsIn_wide.2 (HIB.out _)).mono ?_; rintro e W6 ⟨rfl, hb6⟩; have HB6 := Lib.hid hb6; clear hb6))
        go_roundw
        case rel =>
          have hbX := But.of_rowB W.heap.size W4 #[.int .i64 y.author, .int .i64 y.number, .string y.prev, .int .i64 y.time, .int .i64 y.kind, .int .i64 y.a, .int .i64 y.b, .int .i64 y.c, .slice none 0 0, .slice none 0 0, .string y.body, .int .i64 y.key, .string y.dig]
          have hB5 := HB4.out.but hbX HNE.out.2.1 HNE.out.2.2.1 HNE.out.2.2.2
          have hJ5 := HJ.out _ _ _ HJ4.out hbX
          have hC5 := setRow_heap _ _ _ #[.int .i64 y.author, .int .i64 y.number, .string y.prev, .int .i64 y.time, .int .i64 y.kind, .int .i64 y.a, .int .i64 y.b, .int .i64 y.c, .slice none 0 0, .slice none 0 0, .string y.body, .int .i64 y.key, .string y.dig] _ _ HC4.out
          have h6 := HB6.out
          rw [← hW4] at h6
          exact ⟨pre ++ [z], y :: ys, z.prev, y, rfl, by simp [HXS.out], Lib.hid ⟨HQ.out.1.2.2.2, hB5.later h6, HJ.out _ _ _ hJ5 (But.of h6), (h6.block _ (Array.getElem?_eq_some_iff.1 hC5).1).trans hC5, fun _ _ h => by injection h⟩⟩
        case measure =>
          have hC5 := setRow_heap _ _ _ #[.int .i64 y.author, .int .i64 y.number, .string y.prev, .int .i64 y.time, .int .i64 y.kind, .int .i64 y.a, .int .i64 y.b, .int .i64 y.c, .slice none 0 0, .slice none 0 0, .string y.body, .int .i64 y.key, .string y.dig] _ _ HC4.out
          have h6 := HB6.out
          rw [← hW4] at h6
          unfold wayLeft
          rw [(stm_cells (A := none) (n := 0) (c := 0) (B := none) (m := 0) (k := 0) (s := z) HQ.out.2.2.2.1).2.1, (stm_cells (A := none) (n := 0) (c := 0) (B := none) (m := 0) (k := 0) (s := y) ((h6.block _ (Array.getElem?_eq_some_iff.1 hC5).1).trans hC5)).2.1]
          show y.number.toNat + 1 < z.number.toNat + 1
          unfold behindB at hbh
          simp only [Bool.and_eq_true, decide_eq_true_eq] at hbh
          omega
end Go.Proofs.YtnjilfdmplbalaaGreatDoor
/- A range over an iterator that keeps a block of its own: what its caller owes, and gets. Over any program. -/
namespace Go.Proofs.YtnjilfdmplbalaaGreatDoor
open Go.RowKit
variable {F : Fence} {n : Nat} {P : Program}
/-- How a round ends: it goes on, with one more that has come. -/
def RoundEnd (B k d m : Nat) (W : World) (R : World → Prop) : Exit → Act → World → Prop := fun e _ W' => e = .normal ∧ KeepsFrom B W W' ∧ SameFour k d m (B + 2) W W' ∧ R W'
theorem range_but {α : Type} {g : Operand} {ps : Array Tmp} {assign body : Code} {Q : Exit → Act → World → Prop} {a : Act} {w : World} (hro : F.round = none) (h1 : 1 ≤ n) {gf : Nat} {lb : Array Value}
    (hg : a.eval g = .func (.func gf) #[] lb) (hFg : F.fn gf) (eg : ∀ args w, (callFunc gf args).run P w = .ok (.enter gf args) w) (encs : α → Array Value) (hps : ∀ x, (encs x).size = ps.size)
    (xs : List α) (k d m : Nat) (hkdm : k < w.heap.size ∧ d < w.heap.size ∧ m < w.heap.size) (I : List α → World → Prop)
    (hseq : ∀ (l : Nat) (J : List α → World → Prop) (W : World), Below w.heap.size w W → W.heap.size = w.heap.size + 2 → (∀ s X Y, J s X → But W.heap.size X Y → J s Y) →
      (∀ pre x X, J pre X → pre.length < xs.length → W.heap.size < X.heap.size → YieldAt F (n - 1 - 1) P l (encs x) X fun e X' => e = .returned (.bool true) ∧ J (pre ++ [x]) X' ∧ SameFour k d m W.heap.size X X') →
      J [] W → CallsIn F (n - 1) P gf (#[.func (.yield l) #[] #[]] ++ lb) W fun e W' => (∃ v, e = .returned v) ∧ J xs W')
    (h0 : ∀ W, Below w.heap.size w W → I [] W) (hI : ∀ s X Y, I s X → But (w.heap.size + 2) X Y → I s Y) (hIp : ∀ s X o, I s X → I s (X.putObj (w.heap.size + 1) o)) (Ax : α → Act → World → Prop) (hAx : ∀ x a' X o, Ax x a' X → Ax x a' (X.putObj (w.heap.size + 1) o))
    (hassign : ∀ (l : Nat) (pre : List α) (x : α) (W : World) (K : Act → World → Prop), I pre W → w.heap.size + 2 < W.heap.size → (∀ a' W', KeepsFrom w.heap.size W W' → SameFour k d m (w.heap.size + 2) W W' → I pre W' → Ax x a' W' → K a' W') →
      assign.wpIn (F.inRound l) (n - 1 - 1) P (Exit.then K (fun _ _ _ => False)) { tmps := (ps.zip (encs x)).foldl (fun t (p, v) => t.setIfInBounds p v) a.tmps, defers := [] } W)
    (hbody : ∀ (l : Nat) (pre : List α) (x : α) (a' : Act) (W : World), I pre W → Ax x a' W → pre.length < xs.length → w.heap.size + 2 < W.heap.size → body.wpIn (F.inRound l) (n - 1 - 1) P (RoundEnd w.heap.size k d m W (I (pre ++ [x]))) a' W)
    (hdone : ∀ W, I xs W → w.heap.size + 2 ≤ W.heap.size → W.heap[w.heap.size]? = some (.deferred (some [])) → Q .normal { a with defers := { target := .collected w.heap.size, args := #[] } :: a.defers } W) :
    (Code.rangeFunc g ps assign body).wpIn F n P Q a w := by
  have put : ∀ (X : World) (o : Obj), SameFour k d m (w.heap.size + 2) X (X.putObj (w.heap.size + 1) o) := fun X o =>
    ⟨by simp, World.putObj_heap_other (by omega), World.putObj_heap_other (by omega), World.putObj_heap_other (by omega), World.putObj_heap_other (by omega)⟩
  refine wpIn_rangeFunc fun fn hfn => ?_
  rw [hro]
  let rc : LoopState → Loop := fun st => { state := st, pending := none, fn, tmps := a.tmps, params := ps, assign, body, defers := w.heap.size }
  obtain ⟨W1, hW1⟩ : ∃ W1, (w.alloc (.deferred (some []))).alloc (.loop (rc .ready)) = W1 := ⟨_, rfl⟩
  have hz : W1.heap.size = w.heap.size + 2 := by rw [← hW1]; simp
  have hB : Below w.heap.size w W1 := by rw [← hW1]; exact ((Below.refl _ w).alloc (Nat.le_refl _) _).alloc (by simp) _
  refine ⟨w.heap.size + 1, [{ target := .collected w.heap.size, args := #[] }], W1, { target := .fn (.func gf) lb, args := #[.func (.yield (w.heap.size + 1)) #[] #[]] }, W1, gf, #[.func (.yield (w.heap.size + 1)) #[] #[]] ++ lb, W1,
    by rw [← hW1]; exact run_enterLoop_outer _ _ _ _ _, by simp only [resolve, hg]; simp [go_sem], fun f' hf' => by simp [Target.leads] at hf'; subst hf'; exact hFg, by simp [invoke, go_sem, eg], fun _ => h1, ?_⟩
  refine (hseq (w.heap.size + 1) (fun pre W => I pre W ∧ W.heap[w.heap.size + 1]? = some (.loop (rc .ready)) ∧ W.heap[w.heap.size]? = some (.deferred (some []))) W1 hB hz
    (fun s X Y h hb => by rw [hz] at hb; exact ⟨hI s X Y h.1 hb, (hb.block _ (Array.getElem?_eq_some_iff.1 h.2.1).1 (by omega)).trans h.2.1, (hb.block _ (Array.getElem?_eq_some_iff.1 h.2.2).1 (by omega)).trans h.2.2⟩)
    ?_ ⟨h0 W1 hB, ?_, ?_⟩).mono ?_
  · rintro pre x X ⟨hi, hl, hd⟩ hlen hsz
    rw [hz] at hsz ⊢
    refine ⟨fn, _, assign, body, run_yield (P := P) (args := encs x) hl (hps x), roundIn_of_wpIn hfn (hassign _ pre x X _ hi hsz fun a' Y hkf hk4 hiy hax => ?_)⟩
    have hl2 := hkf.same _ _ (by omega) hl rfl
    have hd2 := hkf.same _ _ (Nat.le_refl _) hd rfl
    have hlt : w.heap.size + 1 < Y.heap.size := (Array.getElem?_eq_some_iff.1 hl2).1
    refine ⟨_, run_beginRound hl2 rfl, wpIn_mono (hbody _ pre x a' _ (hIp _ _ _ hiy) (hAx _ _ _ _ hax) hlen (by rw [World.putObj_size]; exact Nat.lt_of_lt_of_le hsz hkf.size)) ?_⟩
    rintro e a3 Z ⟨rfl, hkz, hz4, hiz⟩
    have hl3 := hkz.same _ _ (by omega) (World.putObj_heap_same hlt) rfl
    exact ⟨_, _, run_endRound (P := P) none hl3, ⟨rfl, ⟨hIp _ _ _ hiz, World.putObj_heap_same (Array.getElem?_eq_some_iff.1 hl3).1, (World.putObj_heap_other (by omega)).trans (hkz.same _ _ (Nat.le_refl _) ((World.putObj_heap_other (by omega)).trans hd2) rfl)⟩, ((hk4.trans (put _ _)).trans hz4).trans (put _ _)⟩⟩
  · rw [← hW1]
    have h := World.alloc_heap_new (w.alloc (.deferred (some []))) (.loop (rc .ready))
    rwa [World.size_alloc] at h
  · rw [← hW1]
    exact (Below.heap_alloc _ _ _ (by simp)).trans (World.alloc_heap_new w _)
  · rintro e W2 ⟨⟨v, rfl⟩, hi, hl, hd⟩
    exact ⟨none, _, run_endLoop (P := P) hl (by simp [rc]), hdone _ (hIp _ _ _ hi) (by rw [World.putObj_size]; exact (Array.getElem?_eq_some_iff.1 hl).1) ((World.putObj_heap_other (by omega)).trans hd)⟩
end Go.Proofs.YtnjilfdmplbalaaGreatDoor
/- No text of its own: what the walks of slices.Reverse and chain.Branch stand on. -/

/- The walk of slices.Reverse over three statements. -/
namespace Go.Proofs.YtnjilfdmplbalaaGreatDoor
open Go.RowKit
set_option maxRecDepth 100000 in
set_option maxHeartbeats 4000000 in
theorem reverse3 (g cap : Nat) (x y z : Stm) (w : World) (hc : ∀ j, j < 39 → w.cell? ⟨g, j, none⟩ = (stmsC [x, y, z])[j]?) (hf : ∀ j, w.frozen? ⟨g, j, none⟩ = false) :
    Calls Tryz.prog 101 #[.slice (some ⟨g, 0, none⟩) 3 cap] w fun e w' => e = .returned (.tuple #[]) ∧ But g w w' ∧ w'.cell? ⟨g, 1, none⟩ = some (.int .i64 z.number) := by
  have HC : Hid (∀ j, w.cell? ⟨g, j, none⟩ = if j < 39 then (stmsC [x, y, z])[j]? else w.cell? ⟨g, j, none⟩) := Lib.hid fun j => by
    by_cases h : j < 39
    · rw [if_pos h]; exact hc j h
    · rw [if_neg h]
  have HF := Lib.hid hf
  clear hc hf
  go_enter Tryz.func101, Tryz.ntmps101
  go_wp2_with fail
  go_loopw [2, 3] (fun i j wr => (i = .int .i64 0 ∧ j = .int .i64 2 ∧ wr = w) ∨ (i = .int .i64 1 ∧ j = .int .i64 1 ∧ Hid (But g w wr ∧ wr.cell? ⟨g, 1, none⟩ = some (.int .i64 z.number)))) (fun i _ _ => 2 - (intOf i).toNat)
  case atStart => exact .inl ⟨rfl, rfl, rfl⟩
  case round =>
    rcases hrel with ⟨rfl, rfl, rfl⟩ | ⟨rfl, rfl, HQ⟩
    · have mixed : Tryz.prog.follows .mixedOrders = true := by kernel_rfl
      have p0 : wr.cell? ⟨g, 0, none⟩ = some (.int .i64 x.author) := (HC.out 0).trans rfl
      have pf0 : wr.frozen? ⟨g, 0, none⟩ = false := HF.out 0
      have p1 : wr.cell? ⟨g, 1, none⟩ = some (.int .i64 x.number) := (HC.out 1).trans rfl
      have pf1 : wr.frozen? ⟨g, 1, none⟩ = false := HF.out 1
      have p2 : wr.cell? ⟨g, 2, none⟩ = some (.string x.prev) := (HC.out 2).trans rfl
      have pf2 : wr.frozen? ⟨g, 2, none⟩ = false := HF.out 2
      have p3 : wr.cell? ⟨g, 3, none⟩ = some (.int .i64 x.time) := (HC.out 3).trans rfl
      have pf3 : wr.frozen? ⟨g, 3, none⟩ = false := HF.out 3
      have p4 : wr.cell? ⟨g, 4, none⟩ = some (.int .i64 x.kind) := (HC.out 4).trans rfl
      have pf4 : wr.frozen? ⟨g, 4, none⟩ = false := HF.out 4
      have p5 : wr.cell? ⟨g, 5, none⟩ = some (.int .i64 x.a) := (HC.out 5).trans rfl
      have pf5 : wr.frozen? ⟨g, 5, none⟩ = false := HF.out 5
      have p6 : wr.cell? ⟨g, 6, none⟩ = some (.int .i64 x.b) := (HC.out 6).trans rfl
      have pf6 : wr.frozen? ⟨g, 6, none⟩ = false := HF.out 6
      have p7 : wr.cell? ⟨g, 7, none⟩ = some (.int .i64 x.c) := (HC.out 7).trans rfl
      have pf7 : wr.frozen? ⟨g, 7, none⟩ = false := HF.out 7
      have p8 : wr.cell? ⟨g, 8, none⟩ = some (.slice none 0 0) := (HC.out 8).trans rfl
      have pf8 : wr.frozen? ⟨g, 8, none⟩ = false := HF.out 8
      have p9 : wr.cell? ⟨g, 9, none⟩ = some (.slice none 0 0) := (HC.out 9).trans rfl
      have pf9 : wr.frozen? ⟨g, 9, none⟩ = false := HF.out 9
      have p10 : wr.cell? ⟨g, 10, none⟩ = some (.string x.body) := (HC.out 10).trans rfl
      have pf10 : wr.frozen? ⟨g, 10, none⟩ = false := HF.out 10
      have p11 : wr.cell? ⟨g, 11, none⟩ = some (.int .i64 x.key) := (HC.out 11).trans rfl
      have pf11 : wr.frozen? ⟨g, 11, none⟩ = false := HF.out 11
      have p12 : wr.cell? ⟨g, 12, none⟩ = some (.string x.dig) := (HC.out 12).trans rfl
      have pf12 : wr.frozen? ⟨g, 12, none⟩ = false := HF.out 12
      have q0 : wr.cell? ⟨g, 26, none⟩ = some (.int .i64 z.author) := (HC.out 26).trans rfl
      have qf0 : wr.frozen? ⟨g, 26, none⟩ = false := HF.out 26
      have q1 : wr.cell? ⟨g, 27, none⟩ = some (.int .i64 z.number) := (HC.out 27).trans rfl
      have qf1 : wr.frozen? ⟨g, 27, none⟩ = false := HF.out 27
      have q2 : wr.cell? ⟨g, 28, none⟩ = some (.string z.prev) := (HC.out 28).trans rfl
      have qf2 : wr.frozen? ⟨g, 28, none⟩ = false := HF.out 28
      have q3 : wr.cell? ⟨g, 29, none⟩ = some (.int .i64 z.time) := (HC.out 29).trans rfl
      have qf3 : wr.frozen? ⟨g, 29, none⟩ = false := HF.out 29
      have q4 : wr.cell? ⟨g, 30, none⟩ = some (.int .i64 z.kind) := (HC.out 30).trans rfl
      have qf4 : wr.frozen? ⟨g, 30, none⟩ = false := HF.out 30
      have q5 : wr.cell? ⟨g, 31, none⟩ = some (.int .i64 z.a) := (HC.out 31).trans rfl
      have qf5 : wr.frozen? ⟨g, 31, none⟩ = false := HF.out 31
      have q6 : wr.cell? ⟨g, 32, none⟩ = some (.int .i64 z.b) := (HC.out 32).trans rfl
      have qf6 : wr.frozen? ⟨g, 32, none⟩ = false := HF.out 32
      have q7 : wr.cell? ⟨g, 33, none⟩ = some (.int .i64 z.c) := (HC.out 33).trans rfl
      have qf7 : wr.frozen? ⟨g, 33, none⟩ = false := HF.out 33
      have q8 : wr.cell? ⟨g, 34, none⟩ = some (.slice none 0 0) := (HC.out 34).trans rfl
      have qf8 : wr.frozen? ⟨g, 34, none⟩ = false := HF.out 34
      have q9 : wr.cell? ⟨g, 35, none⟩ = some (.slice none 0 0) := (HC.out 35).trans rfl
      have qf9 : wr.frozen? ⟨g, 35, none⟩ = false := HF.out 35
      have q10 : wr.cell? ⟨g, 36, none⟩ = some (.string z.body) := (HC.out 36).trans rfl
      have qf10 : wr.frozen? ⟨g, 36, none⟩ = false := HF.out 36
      have q11 : wr.cell? ⟨g, 37, none⟩ = some (.int .i64 z.key) := (HC.out 37).trans rfl
      have qf11 : wr.frozen? ⟨g, 37, none⟩ = false := HF.out 37
      have q12 : wr.cell? ⟨g, 38, none⟩ = some (.string z.dig) := (HC.out 38).trans rfl
      have qf12 : wr.frozen? ⟨g, 38, none⟩ = false := HF.out 38
      go_wp2_with fail
      go_region
      all_goals go_wp2
      clear pf0 pf1 pf2 pf3 pf4 pf5 pf6 pf7 pf8 pf9 pf10 pf11 pf12 qf0 qf1 qf2 qf3 qf4 qf5 qf6 qf7 qf8 qf9 qf10 qf11 qf12
      refine ⟨.inr ⟨rfl, rfl, Lib.hid ⟨?_, ?_⟩⟩, by simp [intOf]⟩
      · refine But.trans ?_ (But.of ((Below.refl _ _).drew))
        repeat (refine But.trans ?_ (But.set _ _ _))
        exact But.refl _ _
      · rw [World.cell?_drew]
        repeat (rw [World.cell?_setCell_other _ _ _ _ (by intro e; injection e with _ e2 _; exact absurd e2 (by decide))])
        refine World.cell?_setCell_same _ _ _ (u := .int .i64 x.number) ?_
        rw [World.cell?_setCell_other _ _ _ _ (by intro e; injection e with _ e2 _; exact absurd e2 (by decide))]
        exact p1
    · go_wp2_with fail
      go_end0
      exact ⟨rfl, HQ.out.1, HQ.out.2⟩
end Go.Proofs.YtnjilfdmplbalaaGreatDoor
/- The walk of chain.Branch where the way back leads to a first statement. -/
namespace Go.Proofs.YtnjilfdmplbalaaGreatDoor
open Go.RowKit
attribute [local go_sem] Oper.semAt_some
theorem wpListIn_app_newK {F : Fence} {n0 : Nat} {P : Program} {ops : Array Oper} {rest : List Oper} {o : Oper} {a : Act} {Q : Exit → Act → World → Prop} (wr : World) (hgd : o.guard = none) (s x : Operand) (t e : TypeId) (ho : o.op = .call { callee := .builtin .append, args := #[s, x], argTypes := #[t, t] })
    (base : Nat) (ht : P.underlying t = some (.slice e)) {z : Value} {size bytes : Nat} (hi : (P.info? e).map (fun i => (i.zero, i.size, i.bytes)) = some (some z, size, bytes)) (hzs : z.cells.size = size)
    (v : Value) (n : Nat) (xs : List Value) (hown : wr.ownsRow base e size v n xs) (hs : a.eval s = v) (m : Nat) (cs : Array Value) (hm : cs.size = m * size) (h1 : ∀ u ∈ cs.toList, u.oneCell' = true)
    (hx : a.eval x = .slice (some ⟨wr.heap.size, 0, none⟩) m m) {w0 : World} {fr : Nat × Nat} (hw0 : w0 = wr.alloc (.cells cs e fr))
    (h63 : n + m ≤ maxLen) (hbytes : (n + m) * bytes ≤ 140737488355328) (hbase : base ≤ wr.heap.size)
    (h : ∀ v' w', w'.ownsRow base e size v' (n + m) (xs ++ cs.toList) → Below base wr w' → (∀ k, k < wr.heap.size → v.ownBlock ≠ some k → w'.heap[k]? = wr.heap[k]?) → wpListIn F n0 P ops Q rest (a.put o.dst v') w') :
    wpListIn F n0 P ops Q (o :: rest) a w0 := by
  subst hw0
  obtain ⟨i0, hi0, hz0, hz1, hz2⟩ := info_parts hi
  obtain ⟨v', w', hr, h2, h3, -⟩ := run_app (wr.alloc (.cells cs e fr)) base t t o.type e i0 z size bytes ht hi0 hz0 hz1 hz2 hzs v n xs (World.ownsRow.alloc hown _) _ m cs.toList ((Row.of_block (heap_alloc_new _ _) hm).src ht h1) h63 hbytes (by simp; omega)
  refine wpListIn_plain hgd fun K hK => ?_
  unfold Oper.wpIn
  refine ⟨by simp [Oper.about, ho, resolve, Target.leads, Sem.run_pure], ?_⟩
  rw [Oper.semAt_plain F _ _ (by rw [ho]; intro c hc'; cases hc')]
  simp only [execOp, ho, resolve, invoke, builtin, Sem.run_bind, Sem.run_pure, Result.andThen_ok, List.map_toArray, List.map_cons, List.map_nil, hs, hx, hr]
  refine hK _ _ (h v' w' h2 ((((Below.refl base wr).alloc hbase _)).grown h3 (by simp; omega) (fun k hk => (World.ownsRow.lt hown k hk).1)) (fun k hk hne => ?_))
  rw [h3.block k (by simp; omega) (fun e => hne e.symm), Below.heap_alloc _ _ _ hk]
/-- What the rounds keep between them: what has come is in the row, which is the call's own. -/
def Came (w : World) (b : Nat) (pre : List Stm) (W : World) : Prop := (∃ v, Boxed W w.heap.size 22 v ∧ W.ownsRow (b + 3) 30 13 v pre.length (stmsC pre)) ∧ Below w.heap.size w W
theorem But.grownBy {D : Nat} {X Y : World} (h : But D X Y) : X.grownBy Y (some D) := ⟨h.os, h.tape, h.output, h.size, fun k hk hne => h.block k hk (fun e => hne (by rw [e]))⟩
theorem Came.grown {w : World} {b : Nat} {pre : List Stm} {X Y : World} {r : Nat} (h : Came w b pre X) (hwb : w.heap.size < b) (hg : X.grownBy Y (some r)) (h1 : b ≤ r) (h2 : r < b + 3) : Came w b pre Y := by
  obtain ⟨⟨v, hv, hr⟩, hb⟩ := h
  refine ⟨⟨v, hv.kept hg (fun e => by injection e; omega), hr.kept hg ?_⟩, hb.grown hg hb.size (fun k e => by injection e; omega)⟩
  exact .inr fun e => by have := (World.ownsRow.lt hr _ e).1; omega
theorem Came.alloc {w : World} {b : Nat} {pre : List Stm} {X : World} (h : Came w b pre X) (o : Obj) : Came w b pre (X.alloc o) := by
  obtain ⟨⟨v, hv, hr⟩, hb⟩ := h
  exact ⟨⟨v, hv.alloc o, World.ownsRow.alloc hr o⟩, hb.alloc hb.size o⟩
theorem came_box {w : World} {b : Nat} {W X : World} {v : Value} {n : Nat} {xs : List Value} (hwb : w.heap.size < b) (hv : Boxed W w.heap.size 22 v) (hr : W.ownsRow (b + 3) 30 13 v n xs)
    (hk : ∀ k, k < W.heap.size → v.ownBlock ≠ some k → X.heap[k]? = W.heap[k]?) : Boxed X w.heap.size 22 v :=
  (hk _ hv.lt (fun e => by have := (World.ownsRow.lt hr _ e).1; omega)).trans hv
/-- A round's two steps: the row has grown, and its box holds it. -/
theorem came_on {w : World} {b : Nat} {pre : List Stm} {x : Stm} {W X : World} {v v' : Value} (hwb : w.heap.size < b) (hb : Below w.heap.size w W) (hbW : b + 2 < W.heap.size) (hv : Boxed W w.heap.size 22 v) (hr : W.ownsRow (b + 3) 30 13 v pre.length (stmsC pre))
    (ho : X.ownsRow (b + 3) 30 13 v' (pre.length + 1) (stmsC pre ++ cellsS x)) (hbe : Below (b + 3) W X) (hk : ∀ k, k < W.heap.size → v.ownBlock ≠ some k → X.heap[k]? = W.heap[k]?) (k d m : Nat) (h1 : k < b ∧ k ≠ w.heap.size) (h2 : d < b ∧ d ≠ w.heap.size) (h3 : m < b ∧ m ≠ w.heap.size) :
    KeepsFrom b W (X.setCell ⟨w.heap.size, 0, none⟩ v') ∧ SameFour k d m (b + 2) W (X.setCell ⟨w.heap.size, 0, none⟩ v') ∧ Came w b (pre ++ [x]) (X.setCell ⟨w.heap.size, 0, none⟩ v') := by
  have hno : ∀ k, k < b + 3 → v.ownBlock ≠ some k := fun k hk e => by have := (World.ownsRow.lt hr k e).1; omega
  have hset : ∀ k, k ≠ w.heap.size → (X.setCell ⟨w.heap.size, 0, none⟩ v').heap[k]? = X.heap[k]? := fun k hk => Below.heap_setCell _ _ _ _ hk
  have hvX : Boxed X w.heap.size 22 v := (hk _ hv.lt (hno _ (by omega))).trans hv
  refine ⟨⟨by rw [World.size_setCell]; exact hbe.size, fun k o hbk hok hoc => ?_⟩, ⟨by rw [World.size_setCell]; exact hbe.size, ?_, ?_, ?_, ?_⟩, ⟨v', hvX.set v', ?_⟩, ?_⟩
  · rw [hset k (by omega), hk k (Array.getElem?_eq_some_iff.1 hok).1 (fun e => ?_)]
    · exact hok
    · rcases hr.2 with ⟨rfl, _⟩ | ⟨g, cap, cur, rfl, _, hgb, _⟩
      · simp [Value.ownBlock] at e
      · obtain rfl : g = k := by simpa [Value.ownBlock] using e
        rw [hgb] at hok
        injection hok with hok
        rw [← hok] at hoc
        simp [Obj.isCells] at hoc
  · rw [hset k h1.2]; exact hk k (by omega) (hno k (by omega))
  · rw [hset d h2.2]; exact hk d (by omega) (hno d (by omega))
  · rw [hset m h3.2]; exact hk m (by omega) (hno m (by omega))
  · rw [hset (b + 2) (by omega)]; exact hk (b + 2) hbW (hno (b + 2) (by omega))
  · rw [List.length_append, stmsC_app, stmsC_single]
    exact ho.kept (grownBy_setCell' X w.heap.size v') (.inr fun e => by have := (World.ownsRow.lt ho _ e).1; omega)
  · exact (hb.trans (hbe.mono (by omega))).setCell (p := ⟨w.heap.size, 0, none⟩) (Nat.le_refl _) _
theorem back_in (n : Nat) (bm : Nat) (d : ByteArray) (w : World) : CallsIn Fence.wide n Tryz.prog 100 #[.map (some bm), .string d] w fun e w' =>
    e = .returned (.func (.func 127) #[] #[.pointer (some ⟨w.heap.size, 0, none⟩), .pointer (some ⟨w.heap.size + 1, 0, none⟩)]) ∧ w' = (w.alloc (.cells #[.map (some bm)] 110)).alloc (.cells #[.string d] 9) := by
  refine callsIn_of_wp Tryz.func100 rfl trivial ?_ rfl
  simp only [Tryz.ntmps100, List.size_toArray, List.length_cons, List.length_nil, Nat.reduceAdd, Nat.reduceSub, Array.replicate_succ, Array.replicate_zero, List.push_toArray, List.append_toArray, List.nil_append, List.cons_append]
  gi_wp2
  go_ret
  exact ⟨rfl, rfl⟩
set_option maxRecDepth 100000 in
set_option maxHeartbeats 4000000 in
theorem branch_any (au : Int) (A : Option Addr) (n c : Nat) (l : List Stm) (w : World) (hl : SRow w A n c l) (hg : Good au l) (hn : n ≤ 1000) (hr : Rounds w) (d : ByteArray) (x1 x2 x3 : Stm) (hx : Way l [x1, x2, x3] d) (h0 : x3.number = 0) :
    Calls Tryz.prog 72 #[.int .i64 au, .slice A n c, .string d] w fun e w' => ∃ A2 m c2, e = .returned (.tuple #[.slice A2 m c2, .bool true]) ∧ m = 3 ∧ Below w.heap.size w w' := by
  obtain ⟨xs, hxs⟩ : ∃ xs, xs = [x1, x2, x3] := ⟨_, rfl⟩
  rw [← hxs] at hx
  have hlen : xs.length = 3 := by rw [hxs]; rfl
  have HXS := Lib.hid hxs; clear hxs
  obtain ⟨w0, hw0⟩ : ∃ w0, w0 = w.alloc (.cells #[.slice none 0 0] 22) := ⟨_, rfl⟩
  have HB0 : Hid (Below w.heap.size w w0) := Lib.hid (by rw [hw0]; exact one_new w _)
  have HX0 : Hid (Boxed w0 w.heap.size 22 (.slice none 0 0)) := Lib.hid (by rw [hw0]; exact Boxed.new w _ _)
  have HZ0 : Hid (w0.heap.size = w.heap.size + 1) := Lib.hid (by rw [hw0]; simp)
  have HFI := Lib.hid (find_any au A n c l w0 (hl.later HB0.out) hg hn (hr.later HB0.out))
  have HG := Lib.hid hg; have HX := Lib.hid hx; have HLE := Lib.hid hlen; have H0 := Lib.hid h0
  clear hl hg hr hx hlen h0
  refine (callsIn_wide (n := 8)).1 ?_
  refine callsIn_of_wp_marks Tryz.func72 rfl trivial ?_ rfl
  simp only [Tryz.ntmps72, List.size_toArray, List.length_cons, List.length_nil, Nat.reduceAdd, Nat.reduceSub, Array.replicate_succ, Array.replicate_zero, List.push_toArray, List.append_toArray, List.nil_append, List.cons_append]
  gi_wp2
  refine ⟨trivial, ?_⟩
  have HF2 := HFI.out
  rw [hw0, ← hw0, HZ0.out, hw0] at HF2
  refine (callsIn_wide.2 HF2).mono ?_
  rintro e w1 ⟨rfl, hm, hb⟩
  rw [← hw0] at hb
  have hsz : w.heap.size + 1 ≤ w1.heap.size := by have := hb.size; have := HZ0.out; omega
  have HM1 := Lib.hid hm; have HX1 : Hid (Boxed w1 w.heap.size 22 (.slice none 0 0)) := Lib.hid ((hb.block _ (by have := HX0.out.lt; have := HZ0.out; omega)).trans HX0.out); have HB1 := Lib.hid (HB0.out.trans (hb.mono (by omega))); have HSZ := Lib.hid hsz
  clear hm hb hsz HF2 HFI
  gi_wp2
  refine ⟨trivial, ?_⟩
  refine (back_in _ _ _ _).mono ?_
  rintro e w2 ⟨rfl, hw2⟩
  have HB2 : Hid (Below w1.heap.size w1 w2) := Lib.hid (by rw [hw2]; exact ((Below.refl _ w1).alloc (Nat.le_refl _) _).alloc (by simp) _)
  have HZ2 : Hid (w2.heap.size = w1.heap.size + 2) := Lib.hid (by rw [hw2]; simp)
  have HK2 : Hid (BackAt w1.heap.size (w1.heap.size + 1) (w.heap.size + 1) l d w2) := Lib.hid ⟨by rw [hw2]; exact (Below.heap_alloc _ _ _ (by simp)).trans (heap_alloc_new _ _), by
    rw [hw2]
    have h := heap_alloc_new (w1.alloc (.cells #[.map (some (w.heap.size + 1))] 110)) (.cells #[.string d] 9)
    rwa [World.size_alloc] at h, HM1.out.later HB2.out⟩
  have HX2 : Hid (Boxed w2 w.heap.size 22 (.slice none 0 0)) := Lib.hid ((HB2.out.block _ HX1.out.lt).trans HX1.out)
  have HW2 : Hid (Below w.heap.size w w2) := Lib.hid (HB1.out.trans (HB2.out.mono HB1.out.size))
  clear hw2
  gi_wp2
  refine range_but rfl (by omega) (gf := 127) (lb := #[.pointer (some ⟨w1.heap.size, 0, none⟩), .pointer (some ⟨w1.heap.size + 1, 0, none⟩)]) rfl trivial (enters_of Tryz.func127 (by kernel_rfl) rfl) (fun x : Stm => #[stmV x none 0 0 none 0 0]) (fun _ => rfl)
    xs w1.heap.size (w1.heap.size + 1) (w.heap.size + 1) (by have := HZ2.out; have := HSZ.out; omega) (Came w w2.heap.size) ?seq ?start (fun s X Y h hb => h.grown (by have := HZ2.out; have := HSZ.out; omega) hb.grownBy (by omega) (by omega)) (fun s X o h => h.grown (by have := HZ2.out; have := HSZ.out; omega) (grownBy_putObj' X _ o) (by omega) (by omega))
    (fun x a' X => ∃ B, w2.heap.size + 2 < B ∧ X.heap[B]? = some (.cells #[.int .i64 x.author, .int .i64 x.number, .string x.prev, .int .i64 x.time, .int .i64 x.kind, .int .i64 x.a, .int .i64 x.b, .int .i64 x.c, .slice none 0 0, .slice none 0 0, .string x.body, .int .i64 x.key, .string x.dig] 30 (0, 0)) ∧
      a' = { tmps := #[.int .i64 au, .slice A n c, .string d, undef, undef, undef, .slice none 0 0, .bool false, .pointer (some ⟨w.heap.size, 0, none⟩), .pointer (some ⟨B, 0, none⟩), .int .i64 au, .slice A n c, .map (some (w.heap.size + 1)), .string d,
        .func (.func 127) #[] #[.pointer (some ⟨w1.heap.size, 0, none⟩), .pointer (some ⟨w1.heap.size + 1, 0, none⟩)], stmV x none 0 0 none 0 0, undef, undef, undef, undef, undef, undef, undef, undef, undef, undef, undef, undef, undef, undef, undef, undef, undef], defers := [] })
    (fun x a' X o h => by obtain ⟨B, h1, h2, h3⟩ := h; exact ⟨B, h1, (World.putObj_heap_other (by omega)).trans h2, h3⟩) ?assign ?body ?done
  case seq =>
    intro l2 J W hW hWz hJ hY hJ0
    exact back1_in au _ (by omega) l2 w1.heap.size (w1.heap.size + 1) (w.heap.size + 1) l HG.out d xs HX.out J W hJ hY (HK2.out.later hW) hJ0
  case start =>
    intro W hW
    exact ⟨⟨_, (hW.block _ HX2.out.lt).trans HX2.out, World.ownsRow_nil _ _ _ _⟩, HW2.out.trans (hW.mono HW2.out.size)⟩
  case assign =>
    intro l2 pre x W K hi hsz hK
    have HKK := Lib.hid hK; have HI := Lib.hid hi
    clear hK hi
    unfold stmV
    gi_wp2
    have hss := HSZ.out; have hzz := HZ2.out
    exact HKK.out _ _ ((KeepsOthers.alloc _ _).from _) ⟨by simp, Below.heap_alloc _ _ _ (by omega), Below.heap_alloc _ _ _ (by omega), Below.heap_alloc _ _ _ (by omega), Below.heap_alloc _ _ _ hsz⟩ (HI.out.alloc _) ⟨W.heap.size, hsz, heap_alloc_new _ _, rfl⟩
  case body =>
    rintro l2 pre x a' W ⟨⟨v, hv, hr⟩, hb⟩ ⟨B, hB, hxb, rfl⟩ hlt hsz
    have HV := Lib.hid hv; have HR := Lib.hid hr; have HBW := Lib.hid hb
    have hc := hv.cell
    obtain ⟨hc0, hc1, hc2, hc3, hc4, hc5, hc6, hc7, hc8, hc9, hc10, hc11, hc12⟩ := stm_cells (A := none) (n := 0) (c := 0) (B := none) (m := 0) (k := 0) (s := x) hxb
    have hpl : pre.length ≤ 1000 := by have := HLE.out; omega
    clear hv hr hb hxb
    unfold stmV
    gi_wp2_with (gi_at_builtin; go_must (refine wpListIn_app_newK W rfl (.tmp 16) (.tmp 18) 22 30 rfl (w2.heap.size + 3) Tryz.underlying22 stm_info rfl v pre.length (stmsC pre) HR.out rfl 1 #[.int .i64 x.author, .int .i64 x.number, .string x.prev, .int .i64 x.time, .int .i64 x.kind, .int .i64 x.a, .int .i64 x.b, .int .i64 x.c, .slice none 0 0, .slice none 0 0, .string x.body, .int .i64 x.key, .string x.dig] rfl (by simp [Value.oneCell']) rfl rfl (by unfold maxLen; omega) (by omega) (by omega) ?_); intro v' x3 ho hb3 hk3; obtain ⟨g', cap', rfl⟩ := ownsRow_succ ho; have hv3 := came_box (w := w) (b := w2.heap.size) (by have := HSZ.out; have := HZ2.out; omega) HV.out HR.out hk3; have HO := Lib.hid ho; have HB3 := Lib.hid hb3; have HK3 := Lib.hid hk3; have hcx := hv3.cell; have hfx := hv3.frozen; clear ho hb3 hk3 hv3)
    have hss := HSZ.out; have hzz := HZ2.out
    obtain ⟨r1, r2, r3⟩ := came_on (x := x) (by omega) HBW.out hsz HV.out HR.out HO.out HB3.out HK3.out w1.heap.size (w1.heap.size + 1) (w.heap.size + 1) (by omega) (by omega) (by omega)
    exact ⟨rfl, r1, r2, r3⟩
  case done =>
    rintro W ⟨⟨v, hv, hr⟩, hb⟩ hWz hK
    rw [HLE.out] at hr
    obtain ⟨g, cap, rfl⟩ := ownsRow_succ hr
    have hc := hv.cell
    have hss := HSZ.out; have hzz := HZ2.out
    have HGB : Hid (w2.heap.size + 3 ≤ g) := Lib.hid (World.ownsRow.lt hr g rfl).1
    have HCF : Hid ((∀ j, j < 39 → W.cell? ⟨g, j, none⟩ = (stmsC [x1, x2, x3])[j]?) ∧ ∀ j, W.frozen? ⟨g, j, none⟩ = false) := Lib.hid (by
      rw [HXS.out] at hr
      constructor
      · obtain ⟨A2, c2, e2, hrow⟩ := Row.of_own hr
        injection e2 with e3 _ _
        subst e3
        obtain ⟨b2, off, e4, hcell⟩ := Row.form hrow (by decide)
        injection e4 with e4
        injection e4 with e5 e6 _
        subst e5 e6
        intro j hj
        have h := hcell j hj
        rwa [Nat.zero_add] at h
      · intro j
        rcases hr.2 with ⟨h, _⟩ | ⟨g2, cap2, cur, h, _, hgb, _⟩
        · cases h
        · injection h with h _ _
          injection h with h
          injection h with h _ _
          subst h
          simp [World.frozen?, hgb])
    have HV := Lib.hid hv; have HBW := Lib.hid hb; have HK := Lib.hid hK
    clear hr hv hb hK
    gi_wp2
    refine ⟨trivial, ?_⟩
    refine (callsIn_wide.2 (reverse3 g cap x1 x2 x3 W HCF.out.1 HCF.out.2)).mono ?_
    rintro e w3 ⟨rfl, hb3, hn3⟩
    rw [H0.out] at hn3
    have HB3 := Lib.hid hb3
    have hv3 : Boxed w3 w.heap.size 22 (.slice (some ⟨g, 0, none⟩) 3 cap) := (hb3.block _ HV.out.lt (by have := HGB.out; omega)).trans HV.out
    have hc3 := hv3.cell
    have HK3 : Hid (w3.heap[w2.heap.size]? = some (.deferred (some []))) := Lib.hid ((hb3.block _ (Array.getElem?_eq_some_iff.1 HK.out).1 (by have := HGB.out; omega)).trans HK.out)
    have HW3 : Hid (Below w.heap.size w w3) := Lib.hid (HBW.out.trans (hb3.below (by have := HGB.out; omega) HBW.out.size))
    clear hb3 hv3 hc
    gi_wp2
    have HK4 := HK3.out
    rw [hzz] at HK4
    refine ⟨by simp, .inl ⟨_, _, rfl, run_takeDeferred HK4, ?_⟩⟩
    exact ⟨_, results_tmp2 rfl _ _ _, some ⟨g, 0, none⟩, 3, cap, rfl, rfl, HW3.out.trans (belowK_b (w := w) (Nat.le_refl _) w3 _ _ _ (by omega) HK4 rfl rfl)⟩
end Go.Proofs.YtnjilfdmplbalaaGreatDoor
/- Statements in blocks of their own: stored and loaded whole. -/
namespace Go.Proofs.YtnjilfdmplbalaaGreatDoor
open Go.RowKit
theorem modify_last {α : Type} (l : Array α) (o : α) (f : α → α) : (l.push o).modify l.size f = l.push (f o) := by
  apply Array.ext
  · simp
  · intro i h1 h2
    rw [Array.getElem_modify]
    by_cases h : l.size = i
    · subst h; simp
    · rw [if_neg h, Array.getElem_push_lt (by simp at h2; omega), Array.getElem_push_lt (by simp at h2; omega)]
theorem setRow_alloc (w : World) (old cells : Array Value) (t : TypeId) : (w.alloc (.cells old t)).setRow w.heap.size cells = w.alloc (.cells cells t) := by
  unfold World.setRow World.alloc
  rw [modify_last]
theorem wpList_store_new {P : Program} {ops : Array Oper} {rest : List Oper} {o : Oper} {a : Act} {w : World} {Q : Exit → Act → World → Prop} (hgd : o.guard = none) (ty : TypeId) (x y : Operand) (ho : o.op = .store ty x y)
    (t : TypeId) (old cells : Array Value) (hx : a.eval x = .pointer (some ⟨w.heap.size, 0, none⟩)) (hy : a.eval y = .agg cells) (hi : (P.info? ty).map (·.size) = some cells.size)
    (hold : old.size = cells.size) (h1 : cells.all (·.oneCell') = true) (h : wpList P ops Q rest (a.put o.dst undef) (w.alloc (.cells cells t))) : wpList P ops Q (o :: rest) a (w.alloc (.cells old t)) := by
  refine wpList_store_row hgd ty x y ho w.heap.size cells hx hy t old (heap_alloc_new _ _) hi hold h1 ?_
  rw [setRow_alloc]
  exact h
/-- A statement in a block of its own. -/
def BoxS (y : World) (B : Nat) (s : Stm) : Prop := y.heap[B]? = some (.cells #[.int .i64 s.author, .int .i64 s.number, .string s.prev, .int .i64 s.time, .int .i64 s.kind, .int .i64 s.a, .int .i64 s.b, .int .i64 s.c, .slice none 0 0, .slice none 0 0, .string s.body, .int .i64 s.key, .string s.dig] 30 (0, 0))
theorem BoxS.later {y z : World} {B : Nat} {s : Stm} (h : BoxS y B s) (hb : Below y.heap.size y z) : BoxS z B s := (hb.block _ (Array.getElem?_eq_some_iff.1 h).1).trans h
theorem BoxS.new (y : World) (s : Stm) : BoxS (y.alloc (.cells #[.int .i64 s.author, .int .i64 s.number, .string s.prev, .int .i64 s.time, .int .i64 s.kind, .int .i64 s.a, .int .i64 s.b, .int .i64 s.c, .slice none 0 0, .slice none 0 0, .string s.body, .int .i64 s.key, .string s.dig] 30)) y.heap.size s := heap_alloc_new _ _
theorem one_row (y : World) (a : Stm) : SRow (y.alloc (.cells #[.int .i64 a.author, .int .i64 a.number, .string a.prev, .int .i64 a.time, .int .i64 a.kind, .int .i64 a.a, .int .i64 a.b, .int .i64 a.c, .slice none 0 0, .slice none 0 0, .string a.body, .int .i64 a.key, .string a.dig] 30)) (some ⟨y.heap.size, 0, none⟩) 1 1 [a] := Row.of_block (heap_alloc_new _ _) rfl
end Go.Proofs.YtnjilfdmplbalaaGreatDoor
