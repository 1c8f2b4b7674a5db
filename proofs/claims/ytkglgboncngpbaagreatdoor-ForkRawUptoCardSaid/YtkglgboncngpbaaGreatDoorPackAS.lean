import Derived.Test.YtkglgboncngpbaaGreatDoorPackAR
import Derived.LoopN
import Derived.Test.YtkglgboncngpbaaGreatDoorPackAL
import Derived.Test.YtkglgboncngpbaaGreatDoorRefSameP
import Derived.Test.YtkglgboncngpbaaGreatDoorRefCheckP
import Derived.Test.YtkglgboncngpbaaGreatDoorPackAE
/- The walks of fork.Guilty and fork.From over two statements. -/
namespace Go.Proofs.YtkglgboncngpbaaGreatDoor
open Go.RowKit
/-- Cells are loaded as one value, wherever they lie. -/
theorem run_loadVar_cells {P : Program} (w : World) (g off : Nat) (ty : TypeId) (part : Array Value) (d : TypeDesc)
    (hu : P.underlying ty = some d) (hd : (match d with | .struct _ | .array _ _ => true | _ => false) = true) (hi : (P.info? ty).map (·.size) = some part.size) (hp : ∀ j, j < part.size → w.cell? ⟨g, off + j, none⟩ = part[j]?) :
    (loadVar ty ⟨g, off, none⟩).run P w = .ok (.agg part) w := by
  have hl : (loadCells ⟨g, off, none⟩ part.toList.length).run P w = .ok part.toList.toArray w :=
    run_loadCells_list (P := P) w ⟨g, off, none⟩ part.toList (fun j v hv => by
      have hadd : (⟨g, off, none⟩ : Addr).add j = ⟨g, off + j, none⟩ := by unfold Addr.add; split <;> simp_all
      have hj : j < part.size := by
        rcases Nat.lt_or_ge j part.size with h | h
        · exact h
        · rw [List.getElem?_eq_none (by simpa using h)] at hv; cases hv
      rw [hadd, hp j hj]
      simpa using hv)
  cases hq : P.info? ty with
  | none => simp [hq] at hi
  | some i =>
    have hs : i.size = part.size := by simpa [hq] using hi
    have hagg : (isAgg ty).run P w = .ok true w := by
      unfold isAgg
      rw [Sem.run_bind, run_underlying hu w]
      cases d <;> simp_all
    simp only [Array.length_toList, Array.toArray_toList] at hl
    simp [loadVar, Sem.run_bind, hagg, sizeOf, typeInfo, hq, hs, hl]
theorem wpList_load_cells {P : Program} {ops : Array Oper} {rest : List Oper} {o : Oper} {a : Act} {w : World} {Q : Exit → Act → World → Prop} (hgd : o.guard = none) (ty : TypeId) (x : Operand) (ho : o.op = .load ty x)
    (g off : Nat) (hx : a.eval x = .pointer (some ⟨g, off, none⟩)) (part : Array Value) (d : TypeDesc)
    (hu : P.underlying ty = some d) (hd : (match d with | .struct _ | .array _ _ => true | _ => false) = true) (hi : (P.info? ty).map (·.size) = some part.size) (hp : ∀ j, j < part.size → w.cell? ⟨g, off + j, none⟩ = part[j]?)
    (h : wpList P ops Q rest (a.put o.dst (.agg part)) w) : wpList P ops Q (o :: rest) a w :=
  wpList_plain hgd fun K hK => by
    unfold Oper.wp execOp
    simp only [ho, hx, Instr.loadAt, Instr.sureAddr, Sem.run_bind, Sem.run_pure, Result.andThen_ok, run_loadVar_cells w g off ty part d hu hd hi hp]
    exact hK _ _ h
theorem wpList_load_cellsG {P : Program} {ops : Array Oper} {rest : List Oper} {o : Oper} {a : Act} {w : World} {Q : Exit → Act → World → Prop} (hw : Region.wanted o (yielded ops a.tmps) = true) (ty : TypeId) (x : Operand) (ho : o.op = .load ty x)
    (g off : Nat) (hx : a.eval x = .pointer (some ⟨g, off, none⟩)) (part : Array Value) (d : TypeDesc)
    (hu : P.underlying ty = some d) (hd : (match d with | .struct _ | .array _ _ => true | _ => false) = true) (hi : (P.info? ty).map (·.size) = some part.size) (hp : ∀ j, j < part.size → w.cell? ⟨g, off + j, none⟩ = part[j]?)
    (h : wpList P ops Q rest (a.put o.dst (.agg part)) w) : wpList P ops Q (o :: rest) a w :=
  wpList_want hw fun K hK => by
    unfold Oper.wp execOp
    simp only [ho, hx, Instr.loadAt, Instr.sureAddr, Sem.run_bind, Sem.run_pure, Result.andThen_ok, run_loadVar_cells w g off ty part d hu hd hi hp]
    exact hK _ _ h
/-- The cells of a row of one fork. -/
theorem row_cells {w : World} {b off n c : Nat} {V : Array Value} (h : Row w (some ⟨b, off, none⟩) n c 26 V.toList) (hV : V.size = 26) (hn : n = 1) : ∀ j, j < V.size → w.cell? ⟨b, off + j, none⟩ = V[j]? := fun j hj => by
  obtain ⟨b2, off2, hA, hc⟩ := Row.form h (by omega)
  injection hA with hA
  injection hA with e1 e2
  subst e1 e2
  rw [hc j (by omega)]
  simp
set_option maxRecDepth 100000 in
set_option maxHeartbeats 4000000 in
theorem guilty_two (A : Option Addr) (c : Nat) (w : World) (hr : SRow w A 2 c [faceA, faceB]) (hR : Rounds w) :
    Calls Tryz.prog 18 #[.agg #[.slice A 2 c]] w fun e w' => ∃ A1 c1, e = .returned (.slice A1 1 c1) ∧ IRow w' A1 1 c1 [3] ∧ Below w.heap.size w w' := by
  have HFD : Hid (∀ y, Below w.heap.size w y → Calls Tryz.prog 16 #[.agg #[.slice A 2 c]] y fun e w' => ∃ A1 c1, e = .returned (.slice A1 1 c1) ∧ Row w' A1 1 c1 26 (forkC faceA faceB).toList ∧ Below y.heap.size y w') := Lib.hid fun y h => find_two A c y (hr.later h) (hR.later h)
  have HS := Lib.hid (forkC_size faceA faceB); have HO := Lib.hid (forkC_one faceA faceB)
  have HK : Hid ((forkC faceA faceB)[0]? = some (.int .i64 3)) := Lib.hid rfl
  clear hr hR
  generalize forkC faceA faceB = V at *
  have HI : Hid ((Tryz.prog.info? 29).map (·.size) = some V.size) := Lib.hid (by rw [HS.out]; kernel_rfl)
  have HB : Hid (Below w.heap.size w (w.alloc (.cells #[.slice A 2 c] 40))) := Lib.hid (one_new w _)
  have HX : Hid ((w.alloc (.cells #[.slice A 2 c] 40)).heap[w.heap.size]? = some (.cells #[.slice A 2 c] 40 (0, 0))) := Lib.hid (heap_alloc_new _ _)
  go_enter Tryz.func18, Tryz.ntmps18
  have hc := (cell_of_row _ _ 0 _ _ _ HX.out).trans rfl
  go_wp2_with fail
  clear hc
  generalize w.alloc (.cells #[.slice A 2 c] 40) = y0 at *
  refine (HFD.out _ HB.out).mono ?_
  rintro e w1 ⟨A1, c1, rfl, hrow, hb⟩
  replace HB := Lib.hid (HB.out.trans (hb.mono HB.out.size))
  obtain ⟨b, off, hA, -⟩ := Row.form hrow (by omega)
  subst hA
  have HC := Lib.hid (row_cells hrow HS.out rfl)
  clear hrow hb HX
  go_wp2_with fail
  refine wp_loop_rounds 2 ?_
  rw [rounds_succ]
  go_upto_region 5 with (first | (refine wpList_load_cells rfl 29 (.tmp 11) rfl b off rfl V _ Tryz.underlying29 rfl HI.out HC.out ?_) | (refine wpList_store_new rfl 29 (.tmp 5) (.tmp 12) rfl 29 _ V rfl rfl HI.out (by rw [HS.out]; rfl) HO.out ?_))
  have HX1 : Hid ((w1.alloc (.cells V 29)).heap[w1.heap.size]? = some (.cells V 29 (0, 0))) := Lib.hid (heap_alloc_new _ _)
  replace HB : Hid (Below w.heap.size w (w1.alloc (.cells V 29))) := Lib.hid (HB.out.trans ((one_new w1 _).mono HB.out.size))
  generalize w1.alloc (.cells V 29) = y1 at *
  have hc := (cell_of_row _ _ 0 _ _ _ HX1.out).trans HK.out
  go_wp2_with (at_builtin; go_must (refine wpList_app_newK y1 rfl (.tmp 13) (.tmp 17) 22 3 rfl w.heap.size Tryz.underlying22 i64_info rfl (.slice none 0 0) 0 [] (World.ownsRow_nil _ _ _ _) rfl 1 #[.int .i64 3] rfl (by simp [Value.oneCell']) rfl rfl (by unfold maxLen; omega) (by omega) HB.out.size ?_); intro x3 z3 ho hb hk1 hk2; have HO3 := Lib.hid ho; have HB3 := Lib.hid (HB.out.trans hb); clear ho hb hk1 hk2)
  rw [rounds_succ]
  go_wp2_with fail
  go_ret
  obtain ⟨A2, c2, hv, hr2⟩ := Row.of_own HO3.out
  exact ⟨A2, c2, by rw [hv]; rfl, hr2, HB3.out⟩
set_option maxRecDepth 100000 in
set_option maxHeartbeats 4000000 in
theorem from_two (k : Nat) (A : Option Addr) (c : Nat) (w : World) (hr : SRow w A 2 c [faceA, faceB]) (hR : Rounds w) :
    Calls Tryz.prog 20 #[.agg #[.slice A 2 c], .int .i64 k] w (SaysL (.int .i64 (if k = 3 then 0 else -1)) w) := by
  have H3 : Hid (∀ y, Below w.heap.size w y → Calls Tryz.prog 40 #[.agg #[.slice A 2 c], .int .i64 3] y (SaysL (.tuple #[.agg (forkC faceA faceB), .bool true]) y)) := Lib.hid fun y h => of_three A c y (hr.later h) (hR.later h)
  have HN : Hid (k ≠ 3 → ∀ y, Below w.heap.size w y → Calls Tryz.prog 40 #[.agg #[.slice A 2 c], .int .i64 k] y (SaysL (.tuple #[.agg zF, .bool false]) y)) := Lib.hid fun hk y h => of_none k hk A c y (hr.later h) (hR.later h)
  have HS := Lib.hid (forkC_size faceA faceB); have HO := Lib.hid (forkC_one faceA faceB)
  have HK : Hid ((forkC faceA faceB)[1]? = some (.int .i64 0)) := Lib.hid rfl
  clear hr hR
  generalize forkC faceA faceB = V at *
  have HI : Hid ((Tryz.prog.info? 29).map (·.size) = some V.size) := Lib.hid (by rw [HS.out]; kernel_rfl)
  have HZI : Hid ((Tryz.prog.info? 29).map (·.size) = some zF.size) := Lib.hid (by kernel_rfl)
  have HB : Hid (Below w.heap.size w (w.alloc (.cells #[.slice A 2 c] 40))) := Lib.hid (one_new w _)
  have HX : Hid ((w.alloc (.cells #[.slice A 2 c] 40)).heap[w.heap.size]? = some (.cells #[.slice A 2 c] 40 (0, 0))) := Lib.hid (heap_alloc_new _ _)
  by_cases hk : k = 3
  · subst hk
    go_enter Tryz.func20, Tryz.ntmps20
    have hc := (cell_of_row _ _ 0 _ _ _ HX.out).trans rfl
    go_wp2_with fail
    clear hc
    generalize w.alloc (.cells #[.slice A 2 c] 40) = y0 at *
    refine (H3.out _ HB.out).mono ?_
    rintro e w1 ⟨rfl, hb⟩
    replace HB := Lib.hid ((HB.out.trans (hb.mono HB.out.size)).trans ((one_new w1 (.cells V 29)).mono (HB.out.trans (hb.mono HB.out.size)).size))
    clear hb
    have hcv := (cell_of_row _ _ 1 _ _ _ (heap_alloc_new w1 (.cells V 29))).trans HK.out
    go_wp2_with (refine wpList_store_new rfl 29 (.tmp 5) (.tmp 11) rfl 29 _ V rfl rfl HI.out (by rw [HS.out]; rfl) HO.out ?_)
    go_ret
    exact ⟨rfl, HB.out⟩
  · have HNN := Lib.hid (HN.out hk)
    rw [if_neg hk]
    clear hk HN
    go_enter Tryz.func20, Tryz.ntmps20
    have hc := (cell_of_row _ _ 0 _ _ _ HX.out).trans rfl
    go_wp2_with fail
    clear hc
    generalize w.alloc (.cells #[.slice A 2 c] 40) = y0 at *
    refine (HNN.out _ HB.out).mono ?_
    rintro e w1 ⟨rfl, hb⟩
    replace HB := Lib.hid ((HB.out.trans (hb.mono HB.out.size)).trans ((one_new w1 (.cells zF 29)).mono (HB.out.trans (hb.mono HB.out.size)).size))
    clear hb
    go_wp2_with (refine wpList_store_new rfl 29 (.tmp 5) (.tmp 11) rfl 29 _ zF rfl rfl HZI.out rfl (by simp [zF, Value.oneCell']) ?_)
    go_ret
    exact ⟨rfl, HB.out⟩
end Go.Proofs.YtkglgboncngpbaaGreatDoor
/- Rows of statements, taken, dropped, read in drawn regions; the reference's order. -/
namespace Go.Proofs.YtkglgboncngpbaaGreatDoor
open Go.RowKit
/-- The cells of statement k, in every world that may come. -/
theorem SRow.futs6 {F : World → World → Prop} (hr : ∀ w, F w w) {W : World} {A : Option Addr} {n c : Nat} {l : List Stm} (hF : ∀ w', F W w' → Later W w') (h : SRow W A n c l) (k : Nat) (hk : k < n) :
    ∃ b off, A = some ⟨b, off, none⟩ ∧ (∀ x, (fut F W x).cell? ⟨b, off + k * 13, none⟩ = some (.int .i64 (l.getD k noStm).author)) ∧ (∀ x, (fut F W x).cell? ⟨b, off + k * 13 + 1, none⟩ = some (.int .i64 (l.getD k noStm).number)) ∧ (∀ x, (fut F W x).cell? ⟨b, off + k * 13 + 2, none⟩ = some (.string (l.getD k noStm).prev)) ∧ (∀ x, (fut F W x).cell? ⟨b, off + k * 13 + 3, none⟩ = some (.int .i64 (l.getD k noStm).time)) ∧ (∀ x, (fut F W x).cell? ⟨b, off + k * 13 + 4, none⟩ = some (.int .i64 (l.getD k noStm).kind)) ∧ (∀ x, (fut F W x).cell? ⟨b, off + k * 13 + 5, none⟩ = some (.int .i64 (l.getD k noStm).a)) ∧ (∀ x, (fut F W x).cell? ⟨b, off + k * 13 + 6, none⟩ = some (.int .i64 (l.getD k noStm).b)) ∧ (∀ x, (fut F W x).cell? ⟨b, off + k * 13 + 7, none⟩ = some (.int .i64 (l.getD k noStm).c)) ∧ (∀ x, (fut F W x).cell? ⟨b, off + k * 13 + 8, none⟩ = some (.slice none 0 0)) ∧ (∀ x, (fut F W x).cell? ⟨b, off + k * 13 + 9, none⟩ = some (.slice none 0 0)) ∧ (∀ x, (fut F W x).cell? ⟨b, off + k * 13 + 10, none⟩ = some (.string (l.getD k noStm).body)) ∧ (∀ x, (fut F W x).cell? ⟨b, off + k * 13 + 11, none⟩ = some (.int .i64 (l.getD k noStm).key)) ∧ (∀ x, (fut F W x).cell? ⟨b, off + k * 13 + 12, none⟩ = some (.string (l.getD k noStm).dig)) := by
  obtain ⟨b, off, hA, hc⟩ := SRow.cells h k hk
  have h2 : ∀ x, (fut F W x).cell? ⟨b, off + k * 13, none⟩ = some (.int .i64 (l.getD k noStm).author) ∧ (fut F W x).cell? ⟨b, off + k * 13 + 1, none⟩ = some (.int .i64 (l.getD k noStm).number) ∧ (fut F W x).cell? ⟨b, off + k * 13 + 2, none⟩ = some (.string (l.getD k noStm).prev) ∧ (fut F W x).cell? ⟨b, off + k * 13 + 3, none⟩ = some (.int .i64 (l.getD k noStm).time) ∧ (fut F W x).cell? ⟨b, off + k * 13 + 4, none⟩ = some (.int .i64 (l.getD k noStm).kind) ∧ (fut F W x).cell? ⟨b, off + k * 13 + 5, none⟩ = some (.int .i64 (l.getD k noStm).a) ∧ (fut F W x).cell? ⟨b, off + k * 13 + 6, none⟩ = some (.int .i64 (l.getD k noStm).b) ∧ (fut F W x).cell? ⟨b, off + k * 13 + 7, none⟩ = some (.int .i64 (l.getD k noStm).c) ∧ (fut F W x).cell? ⟨b, off + k * 13 + 8, none⟩ = some (.slice none 0 0) ∧ (fut F W x).cell? ⟨b, off + k * 13 + 9, none⟩ = some (.slice none 0 0) ∧ (fut F W x).cell? ⟨b, off + k * 13 + 10, none⟩ = some (.string (l.getD k noStm).body) ∧ (fut F W x).cell? ⟨b, off + k * 13 + 11, none⟩ = some (.int .i64 (l.getD k noStm).key) ∧ (fut F W x).cell? ⟨b, off + k * 13 + 12, none⟩ = some (.string (l.getD k noStm).dig) := fun x => by
    obtain ⟨b2, off2, hA2, hc2⟩ := SRow.cells (h.later (hF _ (fut_ok hr W x))) k hk
    rw [hA] at hA2
    injection hA2 with hA2
    injection hA2 with e1 e2
    subst e1 e2
    exact hc2
  refine ⟨b, off, hA, fun x => (h2 x).1, fun x => (h2 x).2.1, fun x => (h2 x).2.2.1, fun x => (h2 x).2.2.2.1, fun x => (h2 x).2.2.2.2.1, fun x => (h2 x).2.2.2.2.2.1, fun x => (h2 x).2.2.2.2.2.2.1, fun x => (h2 x).2.2.2.2.2.2.2.1, fun x => (h2 x).2.2.2.2.2.2.2.2.1, fun x => (h2 x).2.2.2.2.2.2.2.2.2.1, fun x => (h2 x).2.2.2.2.2.2.2.2.2.2.1, fun x => (h2 x).2.2.2.2.2.2.2.2.2.2.2.1, fun x => (h2 x).2.2.2.2.2.2.2.2.2.2.2.2⟩
theorem stmsC_take6 (l : List Stm) (k : Nat) (h : k ≤ l.length) : (stmsC l).take (k * 13) = stmsC (l.take k) := by
  conv => lhs; rw [← List.take_append_drop k l, stmsC_app]
  rw [List.take_append_of_le_length (by rw [stmsC_len, List.length_take]; have : min k l.length = k := by omega
                                        rw [this]; exact Nat.le_refl _), List.take_of_length_le (by rw [stmsC_len, List.length_take]; have : min k l.length = k := by omega
                                                                                                    rw [this]; exact Nat.le_refl _)]
theorem SRow.take6 {w : World} {A : Option Addr} {n c : Nat} {l : List Stm} (h : SRow w A n c l) (k : Nat) (hk : k ≤ n) : SRow w A k c (l.take k) := by
  have := Row.take h k hk
  rw [stmsC_take6 l k (by rw [h.len]; exact hk)] at this
  exact this
theorem SRow.drop6 {w : World} {A : Option Addr} {n c : Nat} {l : List Stm} (h : SRow w A n c l) (k : Nat) (hk : k ≤ n) : SRow w (dropA A c k 13) (n - k) (c - k) (l.drop k) := by
  have := Row.drop h k hk
  rw [stmsC_drop] at this
  exact this
theorem stm_size6 : (Tryz.prog.info? 27).map (·.size) = some 13 := by kernel_rfl
/-- The reference's order of statements in a store. -/
def beforeB (s t : Stm) : Bool := if s.author = t.author then (if s.number = t.number then Op.bytesLess s.dig.toList t.dig.toList else decide (s.number < t.number)) else decide (s.author < t.author)
set_option maxRecDepth 100000 in
set_option maxHeartbeats 4000000 in
theorem before_any (s t : Stm) (w : World) : Calls Tryz.prog 76 #[stmV s none 0 0 none 0 0, stmV t none 0 0 none 0 0] w (SaysL (.bool (beforeB s t)) w) := by
  have HBB : Hid (beforeB s t = if s.author = t.author then (if s.number = t.number then Op.bytesLess s.dig.toList t.dig.toList else decide (s.number < t.number)) else decide (s.author < t.author)) := Lib.hid rfl
  generalize beforeB s t = b at HBB ⊢
  obtain ⟨x0, x1, x2, x3, x4, x5, x6, x7, x8, x9, x10, x11, x12⟩ := s
  obtain ⟨y0, y1, y2, y3, y4, y5, y6, y7, y8, y9, y10, y11, y12⟩ := t
  unfold stmV
  simp only at HBB ⊢
  have HX : Hid (((w.alloc (.cells #[.int .i64 x0, .int .i64 x1, .string x2, .int .i64 x3, .int .i64 x4, .int .i64 x5, .int .i64 x6, .int .i64 x7, .slice none 0 0, .slice none 0 0, .string x10, .int .i64 x11, .string x12] 27)).alloc (.cells #[.int .i64 y0, .int .i64 y1, .string y2, .int .i64 y3, .int .i64 y4, .int .i64 y5, .int .i64 y6, .int .i64 y7, .slice none 0 0, .slice none 0 0, .string y10, .int .i64 y11, .string y12] 27)).heap[w.heap.size]? = some (.cells #[.int .i64 x0, .int .i64 x1, .string x2, .int .i64 x3, .int .i64 x4, .int .i64 x5, .int .i64 x6, .int .i64 x7, .slice none 0 0, .slice none 0 0, .string x10, .int .i64 x11, .string x12] 27 (0, 0))) := Lib.hid ((Below.heap_alloc _ _ _ (by simp)).trans (heap_alloc_new _ _))
  have HY : Hid (((w.alloc (.cells #[.int .i64 x0, .int .i64 x1, .string x2, .int .i64 x3, .int .i64 x4, .int .i64 x5, .int .i64 x6, .int .i64 x7, .slice none 0 0, .slice none 0 0, .string x10, .int .i64 x11, .string x12] 27)).alloc (.cells #[.int .i64 y0, .int .i64 y1, .string y2, .int .i64 y3, .int .i64 y4, .int .i64 y5, .int .i64 y6, .int .i64 y7, .slice none 0 0, .slice none 0 0, .string y10, .int .i64 y11, .string y12] 27)).heap[w.heap.size + 1]? = some (.cells #[.int .i64 y0, .int .i64 y1, .string y2, .int .i64 y3, .int .i64 y4, .int .i64 y5, .int .i64 y6, .int .i64 y7, .slice none 0 0, .slice none 0 0, .string y10, .int .i64 y11, .string y12] 27 (0, 0))) := Lib.hid (heap_alloc2_new _ _ _)
  have HB : Hid (Below w.heap.size w ((w.alloc (.cells #[.int .i64 x0, .int .i64 x1, .string x2, .int .i64 x3, .int .i64 x4, .int .i64 x5, .int .i64 x6, .int .i64 x7, .slice none 0 0, .slice none 0 0, .string x10, .int .i64 x11, .string x12] 27)).alloc (.cells #[.int .i64 y0, .int .i64 y1, .string y2, .int .i64 y3, .int .i64 y4, .int .i64 y5, .int .i64 y6, .int .i64 y7, .slice none 0 0, .slice none 0 0, .string y10, .int .i64 y11, .string y12] 27))) := Lib.hid ((one_new w _).trans ((one_new _ _).mono (by simp)))
  go_enter Tryz.func76, Tryz.ntmps76
  obtain ⟨hc0, hc1, hc2, hc3, hc4, hc5, hc6, hc7, hc8, hc9, hc10, hc11, hc12⟩ := stm_cells (A := none) (n := 0) (c := 0) (B := none) (m := 0) (k := 0) (s := ⟨x0, x1, x2, x3, x4, x5, x6, x7, x8, x9, x10, x11, x12⟩) HX.out
  obtain ⟨hd0, hd1, hd2, hd3, hd4, hd5, hd6, hd7, hd8, hd9, hd10, hd11, hd12⟩ := stm_cells (A := none) (n := 0) (c := 0) (B := none) (m := 0) (k := 0) (s := ⟨y0, y1, y2, y3, y4, y5, y6, y7, y8, y9, y10, y11, y12⟩) HY.out
  clear hc2 hc3 hc4 hc5 hc6 hc7 hc8 hc9 hc10 hc11 hd2 hd3 hd4 hd5 hd6 hd7 hd8 hd9 hd10 hd11
  by_cases e0 : x0 = y0
  · subst e0
    by_cases e1 : x1 = y1
    · subst e1
      have hbb : b = Op.bytesLess x12.toList y12.toList := by rw [HBB.out]; simp
      clear HBB
      go_wp2_with fail
      go_ret
      exact ⟨by first | rfl | (rw [hbb]; rfl), HB.out⟩
    · have g1 : (x1 == y1) = false := by simpa using e1
      have hbb : b = decide (x1 < y1) := by rw [HBB.out]; simp [e1]
      clear HBB
      go_wp2_with fail
      go_ret
      exact ⟨by first | rfl | (rw [hbb]; rfl), HB.out⟩
  · have g0 : (x0 == y0) = false := by simpa using e0
    have hbb : b = decide (x0 < y0) := by rw [HBB.out]; simp [e0]
    clear HBB
    go_wp2_with fail
    go_ret
    exact ⟨by first | rfl | (rw [hbb]; rfl), HB.out⟩
end Go.Proofs.YtkglgboncngpbaaGreatDoor
/- The reference's Copy and Seal of statements without lists: nil stays nil. -/
namespace Go.Proofs.YtkglgboncngpbaaGreatDoor
open Go.RowKit
theorem run_app_nil {P : Program} (w : World) (t ty e : TypeId) (i : TypeInfo) (ht : P.underlying t = some (.slice e)) (hi : P.info? e = some i) :
    (Builtin.append_ #[t, t] ty #[.slice none 0 0, .slice none 0 0]).run P w = .ok (.slice none 0 0) w := by
  simp [Builtin.append_, run_underlying ht, sizeOf, typeInfo, hi, Builtin.lenOf, Builtin.firstCells]
theorem wpList_app_nil {P : Program} {ops : Array Oper} {rest : List Oper} {o : Oper} {a : Act} {w : World} {Q : Exit → Act → World → Prop} (hgd : o.guard = none) (s x : Operand) (t e : TypeId) (ho : o.op = .call { callee := .builtin .append, args := #[s, x], argTypes := #[t, t] })
    (i : TypeInfo) (ht : P.underlying t = some (.slice e)) (hi : P.info? e = some i) (hs : a.eval s = .slice none 0 0) (hx : a.eval x = .slice none 0 0) (h : wpList P ops Q rest (a.put o.dst (.slice none 0 0)) w) : wpList P ops Q (o :: rest) a w := by
  refine wpList_plain hgd fun K hK => ?_
  unfold Oper.wp execOp
  simp only [ho, resolve, invoke, builtin, Sem.run_bind, Sem.run_pure, Result.andThen_ok, List.map_toArray, List.map_cons, List.map_nil, hs, hx, run_app_nil w t o.type e i ht hi]
  exact hK _ _ h
/-- A call that returns a statement whose lists are nil. -/
def GivesN (w : World) (s : Stm) (e : Ending) (w' : World) : Prop := ∃ A n c B m k, e = .returned (stmV s A n c B m k) ∧ IRow w' A n c s.list ∧ PRow w' B m k s.pins ∧ New w w' A ∧ New w w' B ∧ (A = none ∧ n = 0 ∧ c = 0 ∧ B = none ∧ m = 0 ∧ k = 0) ∧ Below w.heap.size w w'
theorem infoI : ∃ i, Tryz.prog.info? 3 = some i := by
  obtain ⟨i, hi, _⟩ := info_parts (P := Tryz.prog) i64_info
  exact ⟨i, hi⟩
theorem infoPin : ∃ i, Tryz.prog.info? 74 = some i := by
  obtain ⟨i, hi, _⟩ := info_parts (P := Tryz.prog) pin_info
  exact ⟨i, hi⟩
set_option maxRecDepth 100000 in
set_option maxHeartbeats 2000000 in
theorem copyBare_any (s : Stm) (w : World) : Calls Tryz.prog 34 #[stmV s none 0 0 none 0 0] w (SaysL (stmV s none 0 0 none 0 0) w) := by
  obtain ⟨ii, hii⟩ := infoI
  obtain ⟨ip, hip⟩ := infoPin

  obtain ⟨author, number, prev, time, kind, a, b, cc, list, pins, body, key, dig⟩ := s
  unfold stmV
  go_enter Tryz.func34, Tryz.ntmps34
  go_wp2_with (first
    | (at_builtin; refine wpList_app_nil rfl (.const (.slice none 0 0)) (.tmp 4) 22 3 rfl ii Tryz.underlying22 hii rfl rfl ?_)
    | (at_builtin; refine wpList_app_nil rfl (.const (.slice none 0 0)) (.tmp 8) 23 74 rfl ip Tryz.underlying23 hip rfl rfl ?_))
  have hy := heap_alloc_new (w.alloc (.cells #[.int .i64 author, .int .i64 number, .string prev, .int .i64 time, .int .i64 kind, .int .i64 a, .int .i64 b, .int .i64 cc, .slice none 0 0, .slice none 0 0, .string body, .int .i64 key, .string dig] 27)) (.cells #[.int .i64 author, .int .i64 number, .string prev, .int .i64 time, .int .i64 kind, .int .i64 a, .int .i64 b, .int .i64 cc, .slice none 0 0, .slice none 0 0, .string body, .int .i64 key, .string dig] 27)
  rw [show (w.alloc (.cells #[.int .i64 author, .int .i64 number, .string prev, .int .i64 time, .int .i64 kind, .int .i64 a, .int .i64 b, .int .i64 cc, .slice none 0 0, .slice none 0 0, .string body, .int .i64 key, .string dig] 27)).heap.size = w.heap.size + 1 by simp] at hy
  refine bodyPost_ret (v := .agg #[.int .i64 author, .int .i64 number, .string prev, .int .i64 time, .int .i64 kind, .int .i64 a, .int .i64 b, .int .i64 cc, .slice none 0 0, .slice none 0 0, .string body, .int .i64 key, .string dig]) (results_cell_row rfl _ _ (w.heap.size + 1) 27 #[.int .i64 author, .int .i64 number, .string prev, .int .i64 time, .int .i64 kind, .int .i64 a, .int .i64 b, .int .i64 cc, .slice none 0 0, .slice none 0 0, .string body, .int .i64 key, .string dig] (0, 0) _ rfl hy Tryz.underlying27 rfl (by kernel_rfl)) rfl ⟨rfl, (one_new w _).alloc (by simp) _⟩
set_option maxRecDepth 100000 in
set_option maxHeartbeats 2000000 in
theorem refSealN_any (s : Stm) (A : Option Addr) (n c : Nat) (B : Option Addr) (m k : Nat) (w : World) (hl : IRow w A n c s.list) (hp : PRow w B m k s.pins) (hs : Small s) (hnn : A = none ∧ n = 0 ∧ c = 0 ∧ B = none ∧ m = 0 ∧ k = 0) (hsl : s.list = [] ∧ s.pins = []) :
    Calls Tryz.prog 9 #[stmV s A n c B m k] w (GivesN w (sealOf s)) := by
  have HCP : Hid (∀ w', Below w.heap.size w w' → Calls Tryz.prog 34 #[stmV s A n c B m k] w' (GivesN w' s)) := Lib.hid fun w' h => by
    obtain ⟨rfl, rfl, rfl, rfl, rfl, rfl⟩ := hnn
    exact (copyBare_any s w').mono fun e w'' ⟨h1, h2⟩ => ⟨none, 0, 0, none, 0, 0, h1, by rw [hsl.1]; exact Row.nilRow _ _, by rw [hsl.2]; exact Row.nilRow _ _, (fun _ h => by cases h), (fun _ h => by cases h), ⟨rfl, rfl, rfl, rfl, rfl, rfl⟩, h2⟩
  have HD : Hid (∀ A n c B m k w', IRow w' A n c s.list → PRow w' B m k s.pins → Calls Tryz.prog 35 #[stmV s A n c B m k] w' (SaysL (.string (digS s)) w')) := Lib.hid fun A n c B m k w' h1 h2 => refDigest_any s A n c B m k w' h1 h2 hs
  clear hl hp hs hsl hnn
  unfold sealOf
  generalize digS s = D at HD ⊢
  obtain ⟨author, number, prev, time, kind, a, b, cc, list, pins, body, key, dig⟩ := s
  unfold stmV at HCP HD ⊢
  simp only at HD
  obtain ⟨G, hG⟩ : ∃ G, G = w.heap.size + 1 := ⟨_, rfl⟩
  have HGG := Lib.hid hG; clear hG
  have hb0 : Below w.heap.size w ((w.alloc (.cells #[.int .i64 author, .int .i64 number, .string prev, .int .i64 time, .int .i64 kind, .int .i64 a, .int .i64 b, .int .i64 cc, .slice A n c, .slice B m k, .string body, .int .i64 key, .string dig] 27)).alloc (.cells #[.int .i64 0, .int .i64 0, .string ⟨#[]⟩, .int .i64 0, .int .i64 0, .int .i64 0, .int .i64 0, .int .i64 0, .slice none 0 0, .slice none 0 0, .string ⟨#[]⟩, .int .i64 0, .string ⟨#[]⟩] 27)) := (one_new w _).alloc (by simp) _
  have hx0 : ((w.alloc (.cells #[.int .i64 author, .int .i64 number, .string prev, .int .i64 time, .int .i64 kind, .int .i64 a, .int .i64 b, .int .i64 cc, .slice A n c, .slice B m k, .string body, .int .i64 key, .string dig] 27)).alloc (.cells #[.int .i64 0, .int .i64 0, .string ⟨#[]⟩, .int .i64 0, .int .i64 0, .int .i64 0, .int .i64 0, .int .i64 0, .slice none 0 0, .slice none 0 0, .string ⟨#[]⟩, .int .i64 0, .string ⟨#[]⟩] 27)).heap[w.heap.size]? = _ := (Below.heap_alloc _ _ _ (by simp)).trans (heap_alloc_new w (.cells #[.int .i64 author, .int .i64 number, .string prev, .int .i64 time, .int .i64 kind, .int .i64 a, .int .i64 b, .int .i64 cc, .slice A n c, .slice B m k, .string body, .int .i64 key, .string dig] 27))
  have hy0 : ((w.alloc (.cells #[.int .i64 author, .int .i64 number, .string prev, .int .i64 time, .int .i64 kind, .int .i64 a, .int .i64 b, .int .i64 cc, .slice A n c, .slice B m k, .string body, .int .i64 key, .string dig] 27)).alloc (.cells #[.int .i64 0, .int .i64 0, .string ⟨#[]⟩, .int .i64 0, .int .i64 0, .int .i64 0, .int .i64 0, .int .i64 0, .slice none 0 0, .slice none 0 0, .string ⟨#[]⟩, .int .i64 0, .string ⟨#[]⟩] 27)).heap[(w.alloc (.cells #[.int .i64 author, .int .i64 number, .string prev, .int .i64 time, .int .i64 kind, .int .i64 a, .int .i64 b, .int .i64 cc, .slice A n c, .slice B m k, .string body, .int .i64 key, .string dig] 27)).heap.size]? = _ := heap_alloc_new (w.alloc (.cells #[.int .i64 author, .int .i64 number, .string prev, .int .i64 time, .int .i64 kind, .int .i64 a, .int .i64 b, .int .i64 cc, .slice A n c, .slice B m k, .string body, .int .i64 key, .string dig] 27)) (.cells #[.int .i64 0, .int .i64 0, .string ⟨#[]⟩, .int .i64 0, .int .i64 0, .int .i64 0, .int .i64 0, .int .i64 0, .slice none 0 0, .slice none 0 0, .string ⟨#[]⟩, .int .i64 0, .string ⟨#[]⟩] 27)
  rw [show (w.alloc (.cells #[.int .i64 author, .int .i64 number, .string prev, .int .i64 time, .int .i64 kind, .int .i64 a, .int .i64 b, .int .i64 cc, .slice A n c, .slice B m k, .string body, .int .i64 key, .string dig] 27)).heap.size = w.heap.size + 1 by simp] at hy0
  have hz0 : ((w.alloc (.cells #[.int .i64 author, .int .i64 number, .string prev, .int .i64 time, .int .i64 kind, .int .i64 a, .int .i64 b, .int .i64 cc, .slice A n c, .slice B m k, .string body, .int .i64 key, .string dig] 27)).alloc (.cells #[.int .i64 0, .int .i64 0, .string ⟨#[]⟩, .int .i64 0, .int .i64 0, .int .i64 0, .int .i64 0, .int .i64 0, .slice none 0 0, .slice none 0 0, .string ⟨#[]⟩, .int .i64 0, .string ⟨#[]⟩] 27)).heap.size = G + 1 := by rw [HGG.out]; simp
  have HB1 := Lib.hid hb0; have HX1 := Lib.hid hx0; have HY1 := Lib.hid hy0; have HZ1 := Lib.hid hz0; clear hb0 hx0 hy0 hz0
  go_enter Tryz.func9, Tryz.ntmps9
  go_wp2_with fail
  refine (HCP.out _ HB1.out).mono ?_
  rintro e w2 ⟨A2, n2, c2, B2, m2, k2, rfl, hl2, hp2, hna, hnb, hnil, hb⟩
  have HNIL := Lib.hid hnil
  clear hnil
  unfold stmV
  simp only at hl2 hp2
  have hsz := HZ1.out
  have HNA : Hid (∀ ad, A2 = some ad → G + 1 ≤ ad.block) := Lib.hid fun ad hA => by have := (hna ad hA).1; rw [hsz] at this; exact this
  have HNB : Hid (∀ ad, B2 = some ad → G + 1 ≤ ad.block) := Lib.hid fun ad hA => by have := (hnb ad hA).1; rw [hsz] at this; exact this
  have HMA2 : Hid (∀ ad, A2 = some ad → ad.block < w2.heap.size) := Lib.hid fun ad hA => (hna ad hA).2
  have HMB2 : Hid (∀ ad, B2 = some ad → ad.block < w2.heap.size) := Lib.hid fun ad hA => (hnb ad hA).2
  clear hna hnb
  have HL2 := Lib.hid hl2; have HP2 := Lib.hid hp2; have HB2 := Lib.hid (HB1.out.trans (hb.mono HB1.out.size)); have HX2 := Lib.hid ((hb.block w.heap.size (by rw [hsz, HGG.out]; omega)).trans HX1.out); have HY2 := Lib.hid ((hb.block (w.heap.size + 1) (by rw [hsz, HGG.out]; omega)).trans HY1.out); have HZ2 : Hid (G + 1 ≤ w2.heap.size) := Lib.hid (by have := hb.size; rw [hsz] at this; exact this)
  clear hl2 hp2 hb HB1 HX1 HY1 HZ1 hsz
  go_wp2_with (refine wpList_store_row rfl 27 (.tmp 1) (.tmp 4) rfl w.heap.size #[.int .i64 author, .int .i64 number, .string prev, .int .i64 time, .int .i64 kind, .int .i64 a, .int .i64 b, .int .i64 cc, .slice A2 n2 c2, .slice B2 m2 k2, .string body, .int .i64 key, .string dig] rfl rfl 27 _ HX2.out (by kernel_rfl) rfl (by simp [Value.oneCell']) ?_)
  refine wp_region_grow (by kernel_rfl) (KeepC w.heap.size ⟨w.heap.size, 0, none⟩) (KeepC.refl _ _) (fun _ _ _ => KeepC.trans) [] [([0, 1], 2), ([], 3), ([], 4), ([5], 6)] (by kernel_rfl) (by kernel_rfl) (by kernel_rfl) ?_
  simp only [List.map_cons, List.map_nil, pick, List.getD_cons_zero, List.getD_cons_succ]
  simp only [Act.put]
  have HX3 : Hid ((w2.setRow w.heap.size #[.int .i64 author, .int .i64 number, .string prev, .int .i64 time, .int .i64 kind, .int .i64 a, .int .i64 b, .int .i64 cc, .slice A2 n2 c2, .slice B2 m2 k2, .string body, .int .i64 key, .string dig]).drew.heap[w.heap.size]? = _) := Lib.hid (setRow_heap _ _ _ #[.int .i64 author, .int .i64 number, .string prev, .int .i64 time, .int .i64 kind, .int .i64 a, .int .i64 b, .int .i64 cc, .slice A2 n2 c2, .slice B2 m2 k2, .string body, .int .i64 key, .string dig] _ _ HX2.out)
  have HY3 : Hid ((w2.setRow w.heap.size #[.int .i64 author, .int .i64 number, .string prev, .int .i64 time, .int .i64 kind, .int .i64 a, .int .i64 b, .int .i64 cc, .slice A2 n2 c2, .slice B2 m2 k2, .string body, .int .i64 key, .string dig]).drew.heap[w.heap.size + 1]? = _) := Lib.hid ((setRow_other w2 w.heap.size (w.heap.size + 1) #[.int .i64 author, .int .i64 number, .string prev, .int .i64 time, .int .i64 kind, .int .i64 a, .int .i64 b, .int .i64 cc, .slice A2 n2 c2, .slice B2 m2 k2, .string body, .int .i64 key, .string dig] (by omega)).trans HY2.out)
  have HB3 : Hid (Below w.heap.size w (w2.setRow w.heap.size #[.int .i64 author, .int .i64 number, .string prev, .int .i64 time, .int .i64 kind, .int .i64 a, .int .i64 b, .int .i64 cc, .slice A2 n2 c2, .slice B2 m2 k2, .string body, .int .i64 key, .string dig]).drew) := Lib.hid ((below_setRow HB2.out (Nat.le_refl _) _).drew)
  have HL3 : Hid (IRow (w2.setRow w.heap.size #[.int .i64 author, .int .i64 number, .string prev, .int .i64 time, .int .i64 kind, .int .i64 a, .int .i64 b, .int .i64 cc, .slice A2 n2 c2, .slice B2 m2 k2, .string body, .int .i64 key, .string dig]).drew A2 n2 c2 list) := Lib.hid (Row.drew (Row.keep HL2.out fun ad hA _ _ => setRow_other _ _ _ _ (by have := HNA.out ad hA; have := HGG.out; omega)))
  have HP3 : Hid (PRow (w2.setRow w.heap.size #[.int .i64 author, .int .i64 number, .string prev, .int .i64 time, .int .i64 kind, .int .i64 a, .int .i64 b, .int .i64 cc, .slice A2 n2 c2, .slice B2 m2 k2, .string body, .int .i64 key, .string dig]).drew B2 m2 k2 pins) := Lib.hid (Row.drew (Row.keep HP2.out fun ad hA _ _ => setRow_other _ _ _ _ (by have := HNB.out ad hA; have := HGG.out; omega)))
  have HZ3 : Hid (G + 1 ≤ (w2.setRow w.heap.size #[.int .i64 author, .int .i64 number, .string prev, .int .i64 time, .int .i64 kind, .int .i64 a, .int .i64 b, .int .i64 cc, .slice A2 n2 c2, .slice B2 m2 k2, .string body, .int .i64 key, .string dig]).drew.heap.size) := Lib.hid (by show _ ≤ (w2.setRow _ _).heap.size; rw [setRow_size]; exact HZ2.out)
  have HMA3 : Hid (∀ ad, A2 = some ad → ad.block < (w2.setRow w.heap.size #[.int .i64 author, .int .i64 number, .string prev, .int .i64 time, .int .i64 kind, .int .i64 a, .int .i64 b, .int .i64 cc, .slice A2 n2 c2, .slice B2 m2 k2, .string body, .int .i64 key, .string dig]).drew.heap.size) := Lib.hid fun ad hA => by show _ < (w2.setRow _ _).heap.size; rw [setRow_size]; exact HMA2.out ad hA
  have HMB3 : Hid (∀ ad, B2 = some ad → ad.block < (w2.setRow w.heap.size #[.int .i64 author, .int .i64 number, .string prev, .int .i64 time, .int .i64 kind, .int .i64 a, .int .i64 b, .int .i64 cc, .slice A2 n2 c2, .slice B2 m2 k2, .string body, .int .i64 key, .string dig]).drew.heap.size) := Lib.hid fun ad hA => by show _ < (w2.setRow _ _).heap.size; rw [setRow_size]; exact HMB2.out ad hA
  clear HX2 HY2 HB2 HL2 HP2 HZ2 HCP HMA2 HMB2
  generalize (w2.setRow w.heap.size #[.int .i64 author, .int .i64 number, .string prev, .int .i64 time, .int .i64 kind, .int .i64 a, .int .i64 b, .int .i64 cc, .slice A2 n2 c2, .slice B2 m2 k2, .string body, .int .i64 key, .string dig]).drew = w3 at HX3 HY3 HB3 HL3 HP3 HZ3 HMA3 HMB3 ⊢
  have hf0 : ∀ x, (fut (KeepC w.heap.size ⟨w.heap.size, 0, none⟩) w3 x).cell? ⟨w.heap.size, 0, none⟩ = some (.int .i64 author) := fun x => by
    rw [(fut_ok (KeepC.refl _ _) w3 x).2, cell_of_row _ _ _ _ _ _ HX3.out]; rfl
  refine wpGrow_cons ?_
  repeat (go_big_quiet_step (fail))
  refine wpQuiet_nil ?_
  clear hf0
  obtain ⟨hc0, hc1, hc2, hc3, hc4, hc5, hc6, hc7, hc8, hc9, hc10, hc11, hc12⟩ := stm_cells (A := A2) (n := n2) (c := c2) (B := B2) (m := m2) (k := k2) (s := ⟨author, number, prev, time, kind, a, b, cc, list, pins, body, key, dig⟩) HX3.out
  go_wp2_with fail
  clear hc0 hc1 hc2 hc3 hc4 hc5 hc6 hc7 hc8 hc9 hc10 hc11 hc12
  refine pieceEnd_normal ⟨KeepC.refl _ _ _, ?_⟩
  refine wpGrow_cons ?_
  refine wpQuiet_nil ?_
  go_wp2_with fail
  refine (HD.out A2 n2 c2 B2 m2 k2 w3 HL3.out HP3.out).mono ?_
  rintro e w4 ⟨rfl, hb⟩
  have hG := HGG.out
  have HF : Hid (KeepC w.heap.size ⟨w.heap.size, 0, none⟩ w3 w4) := Lib.hid ⟨hb.mono (by have := HZ3.out; omega), hb.cell (by show w.heap.size < _; have := HZ3.out; omega)⟩
  have HX4 := Lib.hid ((hb.block w.heap.size (by have := HZ3.out; omega)).trans HX3.out); have HY4 := Lib.hid ((hb.block (w.heap.size + 1) (by have := HZ3.out; omega)).trans HY3.out); have HB4 := Lib.hid (HB3.out.trans (hb.mono HB3.out.size)); have HL4 := Lib.hid (HL3.out.later hb); have HP4 := Lib.hid (HP3.out.later hb)
  have HZ4 : Hid (w3.heap.size ≤ w4.heap.size) := Lib.hid hb.size
  have HMA : Hid (∀ ad, A2 = some ad → ad.block < w4.heap.size) := Lib.hid fun ad hA => Nat.lt_of_lt_of_le (HMA3.out ad hA) hb.size
  have HMB : Hid (∀ ad, B2 = some ad → ad.block < w4.heap.size) := Lib.hid fun ad hA => Nat.lt_of_lt_of_le (HMB3.out ad hA) hb.size
  clear hb HX3 HY3 HB3 HL3 HP3
  go_wp2_with fail
  refine pieceEnd_normal ⟨HF.out, ?_⟩
  clear HF
  refine wpGrow_cons ?_
  refine wpQuiet_nil ?_
  go_wp2_with fail
  refine pieceEnd_normal ⟨KeepC.refl _ _ _, ?_⟩
  refine wpGrow_cons ?_
  repeat (go_big_quiet_step (fail))
  refine wpQuiet_nil ?_
  obtain ⟨hc0, hc1, hc2, hc3, hc4, hc5, hc6, hc7, hc8, hc9, hc10, hc11, hc12⟩ := stm_cells (A := A2) (n := n2) (c := c2) (B := B2) (m := m2) (k := k2) (s := ⟨author, number, prev, time, kind, a, b, cc, list, pins, body, key, dig⟩) HX4.out
  have hz1 : w4.frozen? ⟨w.heap.size, 11, none⟩ = false := frozen_of_row _ _ _ _ _ HX4.out
  have hz2 : w4.frozen? ⟨w.heap.size, 12, none⟩ = false := frozen_of_row _ _ _ _ _ HX4.out
  go_wp2_with fail
  have hx5 : ((w4.setCell ⟨w.heap.size, 11, none⟩ (.int .i64 author)).setCell ⟨w.heap.size, 12, none⟩ (.string D)).heap[w.heap.size]? = some (.cells #[.int .i64 author, .int .i64 number, .string prev, .int .i64 time, .int .i64 kind, .int .i64 a, .int .i64 b, .int .i64 cc, .slice A2 n2 c2, .slice B2 m2 k2, .string body, .int .i64 author, .string D] 27 (0, 0)) := heap_setCell_same _ _ _ _ _ _ (heap_setCell_same _ _ _ _ _ _ HX4.out)
  have hy5 : ((w4.setCell ⟨w.heap.size, 11, none⟩ (.int .i64 author)).setCell ⟨w.heap.size, 12, none⟩ (.string D)).heap[w.heap.size + 1]? = _ := (Below.heap_setCell _ _ _ _ (by show w.heap.size + 1 ≠ w.heap.size; omega)).trans ((Below.heap_setCell _ _ _ _ (by show w.heap.size + 1 ≠ w.heap.size; omega)).trans HY4.out)
  have hk5 : ∀ k, G + 1 ≤ k → ((w4.setCell ⟨w.heap.size, 11, none⟩ (.int .i64 author)).setCell ⟨w.heap.size, 12, none⟩ (.string D)).heap[k]? = w4.heap[k]? := fun k hk => (Below.heap_setCell _ _ _ _ (by show k ≠ w.heap.size; omega)).trans (Below.heap_setCell _ _ _ _ (by show k ≠ w.heap.size; omega))
  have hs5 : ((w4.setCell ⟨w.heap.size, 11, none⟩ (.int .i64 author)).setCell ⟨w.heap.size, 12, none⟩ (.string D)).heap.size = w4.heap.size := by rw [World.size_setCell, World.size_setCell]
  have hb5 : Below w.heap.size w4 ((w4.setCell ⟨w.heap.size, 11, none⟩ (.int .i64 author)).setCell ⟨w.heap.size, 12, none⟩ (.string D)) := ((Below.refl _ _).setCell (p := ⟨w.heap.size, 11, none⟩) (Nat.le_refl _) _).setCell (p := ⟨w.heap.size, 12, none⟩) (Nat.le_refl _) _
  refine pieceEnd_normal ⟨⟨hb5, by rw [cell_of_row _ _ _ _ _ _ hx5, cell_of_row _ _ _ _ _ _ HX4.out]; rfl⟩, ?_⟩
  have HY5 := Lib.hid hy5; have HK5 := Lib.hid hk5; have HS5 := Lib.hid hs5; have HB5 := Lib.hid (HB4.out.trans hb5)
  clear hc0 hc1 hc2 hc3 hc4 hc5 hc6 hc7 hc8 hc9 hc10 hc11 hc12 hz1 hz2 hy5 hk5 hs5 hb5 HX4 HY4 HB4
  generalize ((w4.setCell ⟨w.heap.size, 11, none⟩ (.int .i64 author)).setCell ⟨w.heap.size, 12, none⟩ (.string D)) = w5 at hx5 HY5 HK5 HS5 HB5 ⊢
  obtain ⟨hc0, hc1, hc2, hc3, hc4, hc5, hc6, hc7, hc8, hc9, hc10, hc11, hc12⟩ := stm_cells (A := A2) (n := n2) (c := c2) (B := B2) (m := m2) (k := k2) (s := ⟨author, number, prev, time, kind, a, b, cc, list, pins, body, author, D⟩) hx5
  refine wpGrow_nil ?_
  refine wpQuiet_nil ?_
  go_wp2_with (refine wpList_store_row rfl 27 (.tmp 2) (.tmp 11) rfl (w.heap.size + 1) #[.int .i64 author, .int .i64 number, .string prev, .int .i64 time, .int .i64 kind, .int .i64 a, .int .i64 b, .int .i64 cc, .slice A2 n2 c2, .slice B2 m2 k2, .string body, .int .i64 author, .string D] rfl rfl 27 _ HY5.out (by kernel_rfl) rfl (by simp [Value.oneCell']) ?_)
  have hfin : ∀ k, G + 1 ≤ k → (w5.setRow (w.heap.size + 1) #[.int .i64 author, .int .i64 number, .string prev, .int .i64 time, .int .i64 kind, .int .i64 a, .int .i64 b, .int .i64 cc, .slice A2 n2 c2, .slice B2 m2 k2, .string body, .int .i64 author, .string D]).heap[k]? = w4.heap[k]? := fun k hk => (setRow_other _ _ _ _ (by omega)).trans (HK5.out k hk)
  refine bodyPost_ret (v := .agg #[.int .i64 author, .int .i64 number, .string prev, .int .i64 time, .int .i64 kind, .int .i64 a, .int .i64 b, .int .i64 cc, .slice A2 n2 c2, .slice B2 m2 k2, .string body, .int .i64 author, .string D]) (results_cell_row rfl _ _ (w.heap.size + 1) 27 #[.int .i64 author, .int .i64 number, .string prev, .int .i64 time, .int .i64 kind, .int .i64 a, .int .i64 b, .int .i64 cc, .slice A2 n2 c2, .slice B2 m2 k2, .string body, .int .i64 author, .string D] (0, 0) _ rfl (setRow_heap _ _ _ _ _ _ HY5.out) Tryz.underlying27 rfl (by kernel_rfl)) rfl
    ⟨A2, n2, c2, B2, m2, k2, rfl, Row.keep HL4.out fun ad hA _ _ => hfin _ (HNA.out ad hA), Row.keep HP4.out fun ad hA _ _ => hfin _ (HNB.out ad hA), fun ad hA => ⟨by have := HNA.out ad hA; omega, by rw [setRow_size, HS5.out]; exact HMA.out ad hA⟩, fun ad hA => ⟨by have := HNB.out ad hA; omega, by rw [setRow_size, HS5.out]; exact HMB.out ad hA⟩, HNIL.out, below_setRow HB5.out (by omega) _⟩
theorem sealBare_any (s : Stm) (w : World) (hs : Small s) (hsl : s.list = [] ∧ s.pins = []) : Calls Tryz.prog 9 #[stmV s none 0 0 none 0 0] w (SaysL (stmV (sealOf s) none 0 0 none 0 0) w) :=
  (refSealN_any s none 0 0 none 0 0 w (by rw [hsl.1]; exact Row.nilRow _ _) (by rw [hsl.2]; exact Row.nilRow _ _) hs ⟨rfl, rfl, rfl, rfl, rfl, rfl⟩ hsl).mono fun e w' h => by
    obtain ⟨A, n, c, B, m, k, rfl, -, -, -, -, ⟨rfl, rfl, rfl, rfl, rfl, rfl⟩, hb⟩ := h
    exact ⟨rfl, hb⟩
end Go.Proofs.YtkglgboncngpbaaGreatDoor
/- The walk of the reference's put. -/
namespace Go.Proofs.YtkglgboncngpbaaGreatDoor
open Go.RowKit
set_option maxRecDepth 100000 in
set_option maxHeartbeats 4000000 in
theorem put_any (A : Option Addr) (n c : Nat) (l : List Stm) (x : Stm) (w : World) (hl : SRow w A n c l) (hn : n ≤ 100000) (hx : x.list = [] ∧ x.pins = []) (hb : ∀ s ∈ l, s.list = [] ∧ s.pins = []) (j : Nat) (hj : j ≤ n)
    (hlo : ∀ i, i < j → beforeB (l.getD i noStm) x = true) (hhi : j < n → beforeB (l.getD j noStm) x = false ∧ sameS (l.getD j noStm) x = false) :
    Calls Tryz.prog 51 #[.slice A n c, stmV x none 0 0 none 0 0] w fun e w' => ∃ A2 c2, e = .returned (.tuple #[.slice A2 (n + 1) c2, .bool true]) ∧ SRow w' A2 (n + 1) c2 (l.take j ++ x :: l.drop j) ∧ Below w.heap.size w w' := by
  have HL := Lib.hid hl; have HLN := Lib.hid hl.len; have HLO := Lib.hid hlo; have HHI := Lib.hid hhi
  have HBF : Hid (∀ s y, Calls Tryz.prog 76 #[stmV s none 0 0 none 0 0, stmV x none 0 0 none 0 0] y (SaysL (.bool (beforeB s x)) y)) := Lib.hid fun s y => before_any s x y
  have HSM : Hid (∀ y, j < n → Calls Tryz.prog 60 #[stmV (l.getD j noStm) none 0 0 none 0 0, stmV x none 0 0 none 0 0] y (SaysL (.bool false) y)) := Lib.hid fun y h => by
    have hm : l.getD j noStm ∈ l := by
      rw [List.getD_eq_getElem?_getD, List.getElem?_eq_getElem (by rw [hl.len]; exact h)]
      exact List.getElem_mem _
    have h2 := hb _ hm
    have h3 := refSame_any (l.getD j noStm) none 0 0 none 0 0 x none 0 0 none 0 0 y (by rw [h2.1]; exact Row.nilRow _ _) (by rw [h2.2]; exact Row.nilRow _ _) (by rw [hx.1]; exact Row.nilRow _ _) (by rw [hx.2]; exact Row.nilRow _ _) (by omega) (by omega)
    rw [(hhi h).2] at h3
    exact h3
  have HCP : Hid (∀ y, Calls Tryz.prog 34 #[stmV x none 0 0 none 0 0] y (SaysL (stmV x none 0 0 none 0 0) y)) := Lib.hid fun y => copyBare_any x y
  have hs1 := fun w' => run_slice_to (P := Tryz.prog) (t := 38) Tryz.underlying38 stm_size6 (w0 := w) hl (i := (j : Int)) rfl hj .i64 w'
  have hs2 := fun w' => run_slice_from (P := Tryz.prog) (t := 38) Tryz.underlying38 stm_size6 (A := A) (n := n) (c := c) (k := j) (i := (j : Int)) rfl hj .i64 w'
  have HDR := Lib.hid (hl.drop6 j hj)
  generalize dropA A c j 13 = AD at hs2 HDR
  have HS1 := Lib.hid hs1; have HS2 := Lib.hid hs2
  unfold stmV at HBF HSM HCP ⊢
  clear hl hlo hhi hx hb hs1 hs2
  have HX : Hid ((w.alloc (.cells #[.int .i64 x.author, .int .i64 x.number, .string x.prev, .int .i64 x.time, .int .i64 x.kind, .int .i64 x.a, .int .i64 x.b, .int .i64 x.c, .slice none 0 0, .slice none 0 0, .string x.body, .int .i64 x.key, .string x.dig] 27)).heap[w.heap.size]? = some (.cells #[.int .i64 x.author, .int .i64 x.number, .string x.prev, .int .i64 x.time, .int .i64 x.kind, .int .i64 x.a, .int .i64 x.b, .int .i64 x.c, .slice none 0 0, .slice none 0 0, .string x.body, .int .i64 x.key, .string x.dig] 27 (0, 0))) := Lib.hid (heap_alloc_new _ _)
  have HB : Hid (Below w.heap.size w (w.alloc (.cells #[.int .i64 x.author, .int .i64 x.number, .string x.prev, .int .i64 x.time, .int .i64 x.kind, .int .i64 x.a, .int .i64 x.b, .int .i64 x.c, .slice none 0 0, .slice none 0 0, .string x.body, .int .i64 x.key, .string x.dig] 27))) := Lib.hid (one_new w _)
  have HZ : Hid (w.heap.size < (w.alloc (.cells #[.int .i64 x.author, .int .i64 x.number, .string x.prev, .int .i64 x.time, .int .i64 x.kind, .int .i64 x.a, .int .i64 x.b, .int .i64 x.c, .slice none 0 0, .slice none 0 0, .string x.body, .int .i64 x.key, .string x.dig] 27)).heap.size) := Lib.hid (by simp)
  go_enter Tryz.func51, Tryz.ntmps51
  go_wp2_with fail
  generalize w.alloc (.cells #[.int .i64 x.author, .int .i64 x.number, .string x.prev, .int .i64 x.time, .int .i64 x.kind, .int .i64 x.a, .int .i64 x.b, .int .i64 x.c, .slice none 0 0, .slice none 0 0, .string x.body, .int .i64 x.key, .string x.dig] 27) = y0 at HX HB HZ ⊢
  go_loopw [6] (fun i wr => ∃ q : Nat, q ≤ j ∧ i = .int .i64 q ∧ Hid (Below w.heap.size w wr ∧ wr.heap[w.heap.size]? = some (.cells #[.int .i64 x.author, .int .i64 x.number, .string x.prev, .int .i64 x.time, .int .i64 x.kind, .int .i64 x.a, .int .i64 x.b, .int .i64 x.c, .slice none 0 0, .slice none 0 0, .string x.body, .int .i64 x.key, .string x.dig] 27 (0, 0)) ∧ w.heap.size < wr.heap.size)) (fun i _ => j - (intOf i).toNat)
  case atStart => exact ⟨0, Nat.zero_le _, rfl, Lib.hid ⟨HB.out, HX.out, HZ.out⟩⟩
  case round =>
    obtain ⟨q, hq, rfl, HQ⟩ := hrel
    clear HX HB HZ
    by_cases hqj : q < j
    · have hbt := HLO.out q hqj
      go_wp2_with fail
      refine wp_region_grow (by kernel_rfl) (Later) Later.refl (fun _ _ _ => Later.trans) [11] [([0, 1, 2, 3, 4, 5, 6, 7, 8, 9], 10)] (by kernel_rfl) (by kernel_rfl) (by kernel_rfl) ?_
      simp only [List.map_cons, List.map_nil, pick, List.getD_cons_zero, List.getD_cons_succ]
      have HB0 : Hid (Below w.heap.size w wr.drew) := Lib.hid (HQ.out.1.drew)
      have HX0 : Hid (wr.drew.heap[w.heap.size]? = some (.cells #[.int .i64 x.author, .int .i64 x.number, .string x.prev, .int .i64 x.time, .int .i64 x.kind, .int .i64 x.a, .int .i64 x.b, .int .i64 x.c, .slice none 0 0, .slice none 0 0, .string x.body, .int .i64 x.key, .string x.dig] 27 (0, 0))) := HQ.out.2.1 |> Lib.hid
      have HZ0 : Hid (w.heap.size < wr.drew.heap.size) := Lib.hid HQ.out.2.2
      have HL0 := Lib.hid (HL.out.later HB0.out)
      clear HQ
      generalize wr.drew = z0 at *
      refine wpGrow_cons ?_
      obtain ⟨b, off, hA, hf0, hf1, hf2, hf3, hf4, hf5, hf6, hf7, hf8, hf9, hf10, hf11, hf12⟩ := SRow.futs6 (F := Later) Later.refl (fun _ h => h) HL0.out q (by omega)
      first | subst hA | (injection hA with hA; injection hA with hb1 ho1; subst hb1 ho1)
      obtain ⟨hg0, hg1, hg2, hg3, hg4, hg5, hg6, hg7, hg8, hg9, hg10, hg11, hg12⟩ := stm_futs (F := Later) Later.refl (A := none) (n := 0) (c := 0) (B := none) (m := 0) (k := 0) (s := x) (W := z0) (fun _ h => h.block _ HZ0.out) HX0.out
      have hlt9 : (q : Int) < (n : Int) := by omega
      repeat (go_big_quiet_step (fail))
      refine wpQuiet_nil ?_
      clear hf0 hf1 hf2 hf3 hf4 hf5 hf6 hf7 hf8 hf9 hf10 hf11 hf12
      clear hg0 hg1 hg2 hg3 hg4 hg5 hg6 hg7 hg8 hg9 hg10 hg11 hg12
      go_wp2_with fail
      refine (HBF.out (l.getD q noStm) z0).mono ?_
      rintro e w2 ⟨rfl, hb⟩
      have HF : Hid (Later z0 w2) := Lib.hid hb; have HQ : Hid (Below w.heap.size w w2 ∧ w2.heap[w.heap.size]? = some (.cells #[.int .i64 x.author, .int .i64 x.number, .string x.prev, .int .i64 x.time, .int .i64 x.kind, .int .i64 x.a, .int .i64 x.b, .int .i64 x.c, .slice none 0 0, .slice none 0 0, .string x.body, .int .i64 x.key, .string x.dig] 27 (0, 0)) ∧ w.heap.size < w2.heap.size) := Lib.hid ⟨HB0.out.trans (hb.mono HB0.out.size), (hb.block _ HZ0.out).trans HX0.out, Nat.lt_of_lt_of_le HZ0.out hb.size⟩; clear hb
      clear HB0 HX0 HZ0 HL0 hlt9
      rw [hbt]
      go_wp2_with fail
      refine pieceEnd_normal ⟨HF.out, ?_⟩
      clear HF
      refine wpGrow_nil ?_
      repeat (go_big_quiet_step (fail))
      refine wpQuiet_nil ?_
      go_wp2_with fail
      exact ⟨⟨q + 1, by omega, by go_num, HQ⟩, by simp [intOf]; omega⟩
    · have hqe : j = q := by omega
      subst hqe
      by_cases hjn : j < n
      · have hbt := (HHI.out hjn).1
        go_wp2_with fail
        refine wp_region_grow (by kernel_rfl) (Later) Later.refl (fun _ _ _ => Later.trans) [11] [([0, 1, 2, 3, 4, 5, 6, 7, 8, 9], 10)] (by kernel_rfl) (by kernel_rfl) (by kernel_rfl) ?_
        simp only [List.map_cons, List.map_nil, pick, List.getD_cons_zero, List.getD_cons_succ]
        have HB0 : Hid (Below w.heap.size w wr.drew) := Lib.hid (HQ.out.1.drew)
        have HX0 : Hid (wr.drew.heap[w.heap.size]? = some (.cells #[.int .i64 x.author, .int .i64 x.number, .string x.prev, .int .i64 x.time, .int .i64 x.kind, .int .i64 x.a, .int .i64 x.b, .int .i64 x.c, .slice none 0 0, .slice none 0 0, .string x.body, .int .i64 x.key, .string x.dig] 27 (0, 0))) := HQ.out.2.1 |> Lib.hid
        have HZ0 : Hid (w.heap.size < wr.drew.heap.size) := Lib.hid HQ.out.2.2
        have HL0 := Lib.hid (HL.out.later HB0.out)
        clear HQ
        generalize wr.drew = z0 at *
        refine wpGrow_cons ?_
        obtain ⟨b, off, hA, hf0, hf1, hf2, hf3, hf4, hf5, hf6, hf7, hf8, hf9, hf10, hf11, hf12⟩ := SRow.futs6 (F := Later) Later.refl (fun _ h => h) HL0.out j (by omega)
        first | subst hA | (injection hA with hA; injection hA with hb1 ho1; subst hb1 ho1)
        obtain ⟨hg0, hg1, hg2, hg3, hg4, hg5, hg6, hg7, hg8, hg9, hg10, hg11, hg12⟩ := stm_futs (F := Later) Later.refl (A := none) (n := 0) (c := 0) (B := none) (m := 0) (k := 0) (s := x) (W := z0) (fun _ h => h.block _ HZ0.out) HX0.out
        have hlt9 : (j : Int) < (n : Int) := by omega
        repeat (go_big_quiet_step (fail))
        refine wpQuiet_nil ?_
        clear hf0 hf1 hf2 hf3 hf4 hf5 hf6 hf7 hf8 hf9 hf10 hf11 hf12
        clear hg0 hg1 hg2 hg3 hg4 hg5 hg6 hg7 hg8 hg9 hg10 hg11 hg12
        go_wp2_with fail
        refine (HBF.out (l.getD j noStm) z0).mono ?_
        rintro e w2 ⟨rfl, hb⟩
        have HF : Hid (Later z0 w2) := Lib.hid hb; have HQ : Hid (Below w.heap.size w w2 ∧ w2.heap[w.heap.size]? = some (.cells #[.int .i64 x.author, .int .i64 x.number, .string x.prev, .int .i64 x.time, .int .i64 x.kind, .int .i64 x.a, .int .i64 x.b, .int .i64 x.c, .slice none 0 0, .slice none 0 0, .string x.body, .int .i64 x.key, .string x.dig] 27 (0, 0)) ∧ w.heap.size < w2.heap.size) := Lib.hid ⟨HB0.out.trans (hb.mono HB0.out.size), (hb.block _ HZ0.out).trans HX0.out, Nat.lt_of_lt_of_le HZ0.out hb.size⟩; clear hb
        clear HB0 HX0 HZ0 HL0 hlt9
        rw [hbt]
        go_wp2_with fail
        refine pieceEnd_normal ⟨HF.out, ?_⟩
        clear HF
        refine wpGrow_nil ?_
        repeat (go_big_quiet_step (fail))
        refine wpQuiet_nil ?_
        go_wp2_with fail
        refine wp_region_grow (by kernel_rfl) (Later) Later.refl (fun _ _ _ => Later.trans) [11] [([0, 1, 2, 3, 4, 5, 6, 7, 8, 9], 10)] (by kernel_rfl) (by kernel_rfl) (by kernel_rfl) ?_
        simp only [List.map_cons, List.map_nil, pick, List.getD_cons_zero, List.getD_cons_succ]
        have HB0 : Hid (Below w.heap.size w w2.drew) := Lib.hid (HQ.out.1.drew)
        have HX0 : Hid (w2.drew.heap[w.heap.size]? = some (.cells #[.int .i64 x.author, .int .i64 x.number, .string x.prev, .int .i64 x.time, .int .i64 x.kind, .int .i64 x.a, .int .i64 x.b, .int .i64 x.c, .slice none 0 0, .slice none 0 0, .string x.body, .int .i64 x.key, .string x.dig] 27 (0, 0))) := HQ.out.2.1 |> Lib.hid
        have HZ0 : Hid (w.heap.size < w2.drew.heap.size) := Lib.hid HQ.out.2.2
        have HL0 := Lib.hid (HL.out.later HB0.out)
        clear HQ
        generalize w2.drew = z0 at *
        refine wpGrow_cons ?_
        obtain ⟨b, off, hA, hf0, hf1, hf2, hf3, hf4, hf5, hf6, hf7, hf8, hf9, hf10, hf11, hf12⟩ := SRow.futs6 (F := Later) Later.refl (fun _ h => h) HL0.out j (by omega)
        first | subst hA | (injection hA with hA; injection hA with hb1 ho1; subst hb1 ho1)
        obtain ⟨hg0, hg1, hg2, hg3, hg4, hg5, hg6, hg7, hg8, hg9, hg10, hg11, hg12⟩ := stm_futs (F := Later) Later.refl (A := none) (n := 0) (c := 0) (B := none) (m := 0) (k := 0) (s := x) (W := z0) (fun _ h => h.block _ HZ0.out) HX0.out
        have hlt9 : (j : Int) < (n : Int) := by omega
        repeat (go_big_quiet_step (fail))
        refine wpQuiet_nil ?_
        clear hf0 hf1 hf2 hf3 hf4 hf5 hf6 hf7 hf8 hf9 hf10 hf11 hf12
        clear hg0 hg1 hg2 hg3 hg4 hg5 hg6 hg7 hg8 hg9 hg10 hg11 hg12
        go_wp2_with fail
        refine (HSM.out z0 hjn).mono ?_
        rintro e w3 ⟨rfl, hb⟩
        have HF : Hid (Later z0 w3) := Lib.hid hb; have HQ : Hid (Below w.heap.size w w3 ∧ w3.heap[w.heap.size]? = some (.cells #[.int .i64 x.author, .int .i64 x.number, .string x.prev, .int .i64 x.time, .int .i64 x.kind, .int .i64 x.a, .int .i64 x.b, .int .i64 x.c, .slice none 0 0, .slice none 0 0, .string x.body, .int .i64 x.key, .string x.dig] 27 (0, 0)) ∧ w.heap.size < w3.heap.size) := Lib.hid ⟨HB0.out.trans (hb.mono HB0.out.size), (hb.block _ HZ0.out).trans HX0.out, Nat.lt_of_lt_of_le HZ0.out hb.size⟩; clear hb
        clear HB0 HX0 HZ0 HL0 hlt9
        go_wp2_with fail
        refine pieceEnd_normal ⟨HF.out, ?_⟩
        clear HF
        refine wpGrow_nil ?_
        repeat (go_big_quiet_step (fail))
        refine wpQuiet_nil ?_
        go_wp2_with fail
        try clear hjn2
        have hs1 := HS1.out; have hs2 := HS2.out
        refine wp_region_grow (by kernel_rfl) (Below w3.drew.heap.size) (Below.refl w3.drew.heap.size) (fun _ _ _ => Below.trans) [12, 13] [([0, 1, 2, 4, 8, 9, 10], 3), ([], 5), ([], 6), ([], 7), ([], 11)] (by kernel_rfl) (by kernel_rfl) (by kernel_rfl) ?_
        simp only [List.map_cons, List.map_nil, pick, List.getD_cons_zero, List.getD_cons_succ]
        have HB0 : Hid (Below w.heap.size w w3.drew) := Lib.hid (HQ.out.1.drew)
        have HX0 : Hid (w3.drew.heap[w.heap.size]? = some (.cells #[.int .i64 x.author, .int .i64 x.number, .string x.prev, .int .i64 x.time, .int .i64 x.kind, .int .i64 x.a, .int .i64 x.b, .int .i64 x.c, .slice none 0 0, .slice none 0 0, .string x.body, .int .i64 x.key, .string x.dig] 27 (0, 0))) := HQ.out.2.1 |> Lib.hid
        have HZ0 : Hid (w.heap.size < w3.drew.heap.size) := Lib.hid HQ.out.2.2
        have HL0 := Lib.hid (SRow.later (HL.out.take6 j hj) HB0.out); have HD0 := Lib.hid (HDR.out.later HB0.out)
        clear HQ
        generalize w3.drew = z0 at *
        refine wpGrow_cons ?_
        obtain ⟨hg0, hg1, hg2, hg3, hg4, hg5, hg6, hg7, hg8, hg9, hg10, hg11, hg12⟩ := stm_futs (F := Below z0.heap.size) (Below.refl z0.heap.size) (A := none) (n := 0) (c := 0) (B := none) (m := 0) (k := 0) (s := x) (W := z0) (fun _ h => h.block _ HZ0.out) HX0.out
        repeat (go_big_quiet_step (fail))
        refine wpQuiet_nil ?_
        clear hg0 hg1 hg2 hg3 hg4 hg5 hg6 hg7 hg8 hg9 hg10 hg11 hg12 hs1 hs2
        go_wp2_with (at_builtin; go_must (refine wpList_app z0 rfl (.const (.slice none 0 0)) (.tmp 36) 38 38 27 rfl z0.heap.size Tryz.underlying38 stm_info rfl _ 0 [] (World.ownsRow_nil _ _ _ _) rfl _ j (stmsC (l.take j)) (Row.src HL0.out Tryz.underlying38 (stmsC_one _)) rfl (by unfold maxLen; omega) (by omega) (Nat.le_refl _) ?_); intro v1 z1 ho hb; rw [Nat.zero_add, List.nil_append] at ho; have HO1 := Lib.hid ho; have HS := Lib.hid hb; clear ho hb)
        refine pieceEnd_normal ⟨HS.out, ?_⟩
        refine wpGrow_cons ?_
        refine wpQuiet_nil ?_
        go_wp2_with fail
        refine (HCP.out z1).mono ?_
        rintro e z2 ⟨rfl, hb⟩
        have HF : Hid (Below z0.heap.size z1 z2) := Lib.hid (hb.mono HS.out.size)
        have HO2 := Lib.hid (own_below HO1.out hb (own_lt HO1.out)); replace HS := Lib.hid (HS.out.trans HF.out); clear hb HO1
        go_wp2_with fail
        refine pieceEnd_normal ⟨HF.out, ?_⟩
        clear HF
        refine wpGrow_cons ?_
        refine wpQuiet_nil ?_
        go_wp2_with fail
        refine pieceEnd_normal ⟨(one_new z2 _).mono HS.out.size, ?_⟩
        have HR3 : Hid (SRow (z2.alloc (.cells #[.int .i64 x.author, .int .i64 x.number, .string x.prev, .int .i64 x.time, .int .i64 x.kind, .int .i64 x.a, .int .i64 x.b, .int .i64 x.c, .slice none 0 0, .slice none 0 0, .string x.body, .int .i64 x.key, .string x.dig] 27)) (some ⟨z2.heap.size, 0, none⟩) 1 1 [x]) := Lib.hid (one_row z2 x)
        have HO3 := Lib.hid (own_below HO2.out (one_new z2 (.cells #[.int .i64 x.author, .int .i64 x.number, .string x.prev, .int .i64 x.time, .int .i64 x.kind, .int .i64 x.a, .int .i64 x.b, .int .i64 x.c, .slice none 0 0, .slice none 0 0, .string x.body, .int .i64 x.key, .string x.dig] 27)) (own_lt HO2.out))
        replace HS : Hid (Below z0.heap.size z0 (z2.alloc (.cells #[.int .i64 x.author, .int .i64 x.number, .string x.prev, .int .i64 x.time, .int .i64 x.kind, .int .i64 x.a, .int .i64 x.b, .int .i64 x.c, .slice none 0 0, .slice none 0 0, .string x.body, .int .i64 x.key, .string x.dig] 27))) := Lib.hid (HS.out.trans ((one_new z2 _).mono HS.out.size))
        clear HO2
        generalize hz3 : z2.alloc (.cells #[.int .i64 x.author, .int .i64 x.number, .string x.prev, .int .i64 x.time, .int .i64 x.kind, .int .i64 x.a, .int .i64 x.b, .int .i64 x.c, .slice none 0 0, .slice none 0 0, .string x.body, .int .i64 x.key, .string x.dig] 27) = z3 at *
        clear hz3
        refine wpGrow_cons ?_
        refine wpQuiet_nil ?_
        go_wp2_with (at_builtin; go_must (refine wpList_app z3 rfl (.tmp 37) (.tmp 40) 38 38 27 rfl z0.heap.size Tryz.underlying38 stm_info rfl _ j (stmsC (l.take j)) HO3.out rfl (.slice (some ⟨z2.heap.size, 0, none⟩) 1 1) 1 (stmsC [x]) (Row.src HR3.out Tryz.underlying38 (stmsC_one _)) rfl (by unfold maxLen; omega) (by omega) HS.out.size ?_); intro v4 z4 ho hb; have HO4 := Lib.hid ho; have HF : Hid (Below z0.heap.size z3 z4) := Lib.hid hb; replace HS := Lib.hid (HS.out.trans hb); clear ho hb)
        refine pieceEnd_normal ⟨HF.out, ?_⟩
        clear HF HR3 HO3
        refine wpGrow_cons ?_
        refine wpQuiet_nil ?_
        have HD4 := Lib.hid (HD0.out.later HS.out)
        go_wp2_with (at_builtin; go_must (refine wpList_app z4 rfl (.tmp 41) (.tmp 44) 38 38 27 rfl z0.heap.size Tryz.underlying38 stm_info rfl _ (j + 1) _ HO4.out rfl _ (n - j) (stmsC (l.drop j)) (Row.src HD4.out Tryz.underlying38 (stmsC_one _)) rfl (by unfold maxLen; omega) (by omega) HS.out.size ?_); intro v5 z5 ho hb; have HO5 := Lib.hid ho; have HF : Hid (Below z0.heap.size z4 z5) := Lib.hid hb; replace HS := Lib.hid (HS.out.trans hb); clear ho hb)
        refine pieceEnd_normal ⟨HF.out, ?_⟩
        clear HF HO4 HD4
        refine wpGrow_nil ?_
        repeat (go_big_quiet_step (fail))
        refine wpQuiet_nil ?_
        go_wp2_with fail
        go_ret2
        obtain ⟨A5, c5, hv5, hr5⟩ := Row.of_own HO5.out
        subst hv5
        refine ⟨A5, c5, by rw [show j + 1 + (n - j) = n + 1 by omega]; rfl, ?_, HB0.out.trans (HS.out.mono HB0.out.size)⟩
        rw [show j + 1 + (n - j) = n + 1 by omega, stmsC_single] at hr5
        show Row z5 A5 (n + 1) c5 13 (stmsC (l.take j ++ x :: l.drop j))
        rw [stmsC_app, show x :: l.drop j = [x] ++ l.drop j from rfl, stmsC_app, stmsC_single, ← List.append_assoc]
        exact hr5
      · have HJN : Hid (j = n) := by unfold Hid; omega
        go_wp2_with fail
        refine wp_region_grow (by kernel_rfl) (Later) Later.refl (fun _ _ _ => Later.trans) [11] [([0, 1, 2, 3, 4, 5, 6, 7, 8, 9], 10)] (by kernel_rfl) (by kernel_rfl) (by kernel_rfl) ?_
        simp only [List.map_cons, List.map_nil, pick, List.getD_cons_zero, List.getD_cons_succ]
        have HB0 : Hid (Below w.heap.size w wr.drew) := Lib.hid (HQ.out.1.drew)
        have HX0 : Hid (wr.drew.heap[w.heap.size]? = some (.cells #[.int .i64 x.author, .int .i64 x.number, .string x.prev, .int .i64 x.time, .int .i64 x.kind, .int .i64 x.a, .int .i64 x.b, .int .i64 x.c, .slice none 0 0, .slice none 0 0, .string x.body, .int .i64 x.key, .string x.dig] 27 (0, 0))) := HQ.out.2.1 |> Lib.hid
        have HZ0 : Hid (w.heap.size < wr.drew.heap.size) := Lib.hid HQ.out.2.2
        have HL0 := Lib.hid (HL.out.later HB0.out)
        clear HQ
        generalize wr.drew = z0 at *
        refine wpGrow_cons ?_
        have hlt9 : ¬ (j : Int) < (n : Int) := by omega
        repeat (go_big_quiet_step (fail))
        refine wpQuiet_nil ?_
        go_wp2_with fail
        have HQ : Hid (Below w.heap.size w z0 ∧ z0.heap[w.heap.size]? = some (.cells #[.int .i64 x.author, .int .i64 x.number, .string x.prev, .int .i64 x.time, .int .i64 x.kind, .int .i64 x.a, .int .i64 x.b, .int .i64 x.c, .slice none 0 0, .slice none 0 0, .string x.body, .int .i64 x.key, .string x.dig] 27 (0, 0)) ∧ w.heap.size < z0.heap.size) := Lib.hid ⟨HB0.out, HX0.out, HZ0.out⟩
        have HF : Hid (Later z0 z0) := Lib.hid (Later.refl _)
        clear HB0 HX0 HZ0 HL0 hlt9
        go_wp2_with fail
        refine pieceEnd_normal ⟨HF.out, ?_⟩
        clear HF
        refine wpGrow_nil ?_
        repeat (go_big_quiet_step (fail))
        refine wpQuiet_nil ?_
        go_wp2_with fail
        refine wp_region_grow (by kernel_rfl) (Later) Later.refl (fun _ _ _ => Later.trans) [11] [([0, 1, 2, 3, 4, 5, 6, 7, 8, 9], 10)] (by kernel_rfl) (by kernel_rfl) (by kernel_rfl) ?_
        simp only [List.map_cons, List.map_nil, pick, List.getD_cons_zero, List.getD_cons_succ]
        have HB0 : Hid (Below w.heap.size w z0.drew) := Lib.hid (HQ.out.1.drew)
        have HX0 : Hid (z0.drew.heap[w.heap.size]? = some (.cells #[.int .i64 x.author, .int .i64 x.number, .string x.prev, .int .i64 x.time, .int .i64 x.kind, .int .i64 x.a, .int .i64 x.b, .int .i64 x.c, .slice none 0 0, .slice none 0 0, .string x.body, .int .i64 x.key, .string x.dig] 27 (0, 0))) := HQ.out.2.1 |> Lib.hid
        have HZ0 : Hid (w.heap.size < z0.drew.heap.size) := Lib.hid HQ.out.2.2
        have HL0 := Lib.hid (HL.out.later HB0.out)
        clear HQ
        generalize z0.drew = z0 at *
        refine wpGrow_cons ?_
        have hlt9 : ¬ (j : Int) < (n : Int) := by omega
        repeat (go_big_quiet_step (fail))
        refine wpQuiet_nil ?_
        go_wp2_with fail
        have HQ : Hid (Below w.heap.size w z0 ∧ z0.heap[w.heap.size]? = some (.cells #[.int .i64 x.author, .int .i64 x.number, .string x.prev, .int .i64 x.time, .int .i64 x.kind, .int .i64 x.a, .int .i64 x.b, .int .i64 x.c, .slice none 0 0, .slice none 0 0, .string x.body, .int .i64 x.key, .string x.dig] 27 (0, 0)) ∧ w.heap.size < z0.heap.size) := Lib.hid ⟨HB0.out, HX0.out, HZ0.out⟩
        have HF : Hid (Later z0 z0) := Lib.hid (Later.refl _)
        clear HB0 HX0 HZ0 HL0 hlt9
        go_wp2_with fail
        refine pieceEnd_normal ⟨HF.out, ?_⟩
        clear HF
        refine wpGrow_nil ?_
        repeat (go_big_quiet_step (fail))
        refine wpQuiet_nil ?_
        go_wp2_with fail
        try clear hjn2
        have hs1 := HS1.out; have hs2 := HS2.out
        refine wp_region_grow (by kernel_rfl) (Below z0.drew.heap.size) (Below.refl z0.drew.heap.size) (fun _ _ _ => Below.trans) [12, 13] [([0, 1, 2, 4, 8, 9, 10], 3), ([], 5), ([], 6), ([], 7), ([], 11)] (by kernel_rfl) (by kernel_rfl) (by kernel_rfl) ?_
        simp only [List.map_cons, List.map_nil, pick, List.getD_cons_zero, List.getD_cons_succ]
        have HB0 : Hid (Below w.heap.size w z0.drew) := Lib.hid (HQ.out.1.drew)
        have HX0 : Hid (z0.drew.heap[w.heap.size]? = some (.cells #[.int .i64 x.author, .int .i64 x.number, .string x.prev, .int .i64 x.time, .int .i64 x.kind, .int .i64 x.a, .int .i64 x.b, .int .i64 x.c, .slice none 0 0, .slice none 0 0, .string x.body, .int .i64 x.key, .string x.dig] 27 (0, 0))) := HQ.out.2.1 |> Lib.hid
        have HZ0 : Hid (w.heap.size < z0.drew.heap.size) := Lib.hid HQ.out.2.2
        have HL0 := Lib.hid (SRow.later (HL.out.take6 j hj) HB0.out); have HD0 := Lib.hid (HDR.out.later HB0.out)
        clear HQ
        generalize z0.drew = z0 at *
        refine wpGrow_cons ?_
        obtain ⟨hg0, hg1, hg2, hg3, hg4, hg5, hg6, hg7, hg8, hg9, hg10, hg11, hg12⟩ := stm_futs (F := Below z0.heap.size) (Below.refl z0.heap.size) (A := none) (n := 0) (c := 0) (B := none) (m := 0) (k := 0) (s := x) (W := z0) (fun _ h => h.block _ HZ0.out) HX0.out
        repeat (go_big_quiet_step (fail))
        refine wpQuiet_nil ?_
        clear hg0 hg1 hg2 hg3 hg4 hg5 hg6 hg7 hg8 hg9 hg10 hg11 hg12 hs1 hs2
        go_wp2_with (at_builtin; go_must (refine wpList_app z0 rfl (.const (.slice none 0 0)) (.tmp 36) 38 38 27 rfl z0.heap.size Tryz.underlying38 stm_info rfl _ 0 [] (World.ownsRow_nil _ _ _ _) rfl _ j (stmsC (l.take j)) (Row.src HL0.out Tryz.underlying38 (stmsC_one _)) rfl (by unfold maxLen; omega) (by omega) (Nat.le_refl _) ?_); intro v1 z1 ho hb; rw [Nat.zero_add, List.nil_append] at ho; have HO1 := Lib.hid ho; have HS := Lib.hid hb; clear ho hb)
        refine pieceEnd_normal ⟨HS.out, ?_⟩
        refine wpGrow_cons ?_
        refine wpQuiet_nil ?_
        go_wp2_with fail
        refine (HCP.out z1).mono ?_
        rintro e z2 ⟨rfl, hb⟩
        have HF : Hid (Below z0.heap.size z1 z2) := Lib.hid (hb.mono HS.out.size)
        have HO2 := Lib.hid (own_below HO1.out hb (own_lt HO1.out)); replace HS := Lib.hid (HS.out.trans HF.out); clear hb HO1
        go_wp2_with fail
        refine pieceEnd_normal ⟨HF.out, ?_⟩
        clear HF
        refine wpGrow_cons ?_
        refine wpQuiet_nil ?_
        go_wp2_with fail
        refine pieceEnd_normal ⟨(one_new z2 _).mono HS.out.size, ?_⟩
        have HR3 : Hid (SRow (z2.alloc (.cells #[.int .i64 x.author, .int .i64 x.number, .string x.prev, .int .i64 x.time, .int .i64 x.kind, .int .i64 x.a, .int .i64 x.b, .int .i64 x.c, .slice none 0 0, .slice none 0 0, .string x.body, .int .i64 x.key, .string x.dig] 27)) (some ⟨z2.heap.size, 0, none⟩) 1 1 [x]) := Lib.hid (one_row z2 x)
        have HO3 := Lib.hid (own_below HO2.out (one_new z2 (.cells #[.int .i64 x.author, .int .i64 x.number, .string x.prev, .int .i64 x.time, .int .i64 x.kind, .int .i64 x.a, .int .i64 x.b, .int .i64 x.c, .slice none 0 0, .slice none 0 0, .string x.body, .int .i64 x.key, .string x.dig] 27)) (own_lt HO2.out))
        replace HS : Hid (Below z0.heap.size z0 (z2.alloc (.cells #[.int .i64 x.author, .int .i64 x.number, .string x.prev, .int .i64 x.time, .int .i64 x.kind, .int .i64 x.a, .int .i64 x.b, .int .i64 x.c, .slice none 0 0, .slice none 0 0, .string x.body, .int .i64 x.key, .string x.dig] 27))) := Lib.hid (HS.out.trans ((one_new z2 _).mono HS.out.size))
        clear HO2
        generalize hz3 : z2.alloc (.cells #[.int .i64 x.author, .int .i64 x.number, .string x.prev, .int .i64 x.time, .int .i64 x.kind, .int .i64 x.a, .int .i64 x.b, .int .i64 x.c, .slice none 0 0, .slice none 0 0, .string x.body, .int .i64 x.key, .string x.dig] 27) = z3 at *
        clear hz3
        refine wpGrow_cons ?_
        refine wpQuiet_nil ?_
        go_wp2_with (at_builtin; go_must (refine wpList_app z3 rfl (.tmp 37) (.tmp 40) 38 38 27 rfl z0.heap.size Tryz.underlying38 stm_info rfl _ j (stmsC (l.take j)) HO3.out rfl (.slice (some ⟨z2.heap.size, 0, none⟩) 1 1) 1 (stmsC [x]) (Row.src HR3.out Tryz.underlying38 (stmsC_one _)) rfl (by unfold maxLen; omega) (by omega) HS.out.size ?_); intro v4 z4 ho hb; have HO4 := Lib.hid ho; have HF : Hid (Below z0.heap.size z3 z4) := Lib.hid hb; replace HS := Lib.hid (HS.out.trans hb); clear ho hb)
        refine pieceEnd_normal ⟨HF.out, ?_⟩
        clear HF HR3 HO3
        refine wpGrow_cons ?_
        refine wpQuiet_nil ?_
        have HD4 := Lib.hid (HD0.out.later HS.out)
        go_wp2_with (at_builtin; go_must (refine wpList_app z4 rfl (.tmp 41) (.tmp 44) 38 38 27 rfl z0.heap.size Tryz.underlying38 stm_info rfl _ (j + 1) _ HO4.out rfl _ (n - j) (stmsC (l.drop j)) (Row.src HD4.out Tryz.underlying38 (stmsC_one _)) rfl (by unfold maxLen; omega) (by omega) HS.out.size ?_); intro v5 z5 ho hb; have HO5 := Lib.hid ho; have HF : Hid (Below z0.heap.size z4 z5) := Lib.hid hb; replace HS := Lib.hid (HS.out.trans hb); clear ho hb)
        refine pieceEnd_normal ⟨HF.out, ?_⟩
        clear HF HO4 HD4
        refine wpGrow_nil ?_
        repeat (go_big_quiet_step (fail))
        refine wpQuiet_nil ?_
        go_wp2_with fail
        go_ret2
        obtain ⟨A5, c5, hv5, hr5⟩ := Row.of_own HO5.out
        subst hv5
        refine ⟨A5, c5, by rw [show j + 1 + (n - j) = n + 1 by omega]; rfl, ?_, HB0.out.trans (HS.out.mono HB0.out.size)⟩
        rw [show j + 1 + (n - j) = n + 1 by omega, stmsC_single] at hr5
        show Row z5 A5 (n + 1) c5 13 (stmsC (l.take j ++ x :: l.drop j))
        rw [stmsC_app, show x :: l.drop j = [x] ++ l.drop j from rfl, stmsC_app, stmsC_single, ← List.append_assoc]
        exact hr5
end Go.Proofs.YtkglgboncngpbaaGreatDoor
/- The walk of the reference's Adds. -/
namespace Go.Proofs.YtkglgboncngpbaaGreatDoor
open Go.RowKit
/-- A row of statements does not lie in a block of one cell. -/
theorem row_not {w : World} {g : Nat} {A : Option Addr} {n c : Nat} {l : List Stm} {v : Value} {T : TypeId} {fr : Nat × Nat} (h : SRow w A n c l) (hg : w.heap[g]? = some (.cells #[v] T fr)) : ∀ ad, A = some ad → 0 < n → ad.block ≠ g := fun ad hA h0 he => by
  obtain ⟨b, off, hA', hc0, hc1, -⟩ := SRow.cells h 0 h0
  rw [hA] at hA'
  injection hA' with e
  subst e
  simp only at he
  subst he
  rw [cell_of_row _ _ _ _ _ _ hg] at hc1
  have : off + 0 * 13 + 1 < 1 := by
    rcases Nat.lt_or_ge (off + 0 * 13 + 1) 1 with h | h
    · exact h
    · rw [Array.getElem?_eq_none (by simp)] at hc1; cases hc1
  omega
set_option maxRecDepth 100000 in
set_option maxHeartbeats 4000000 in
theorem adds_any {au : Int} (A : Option Addr) (n c : Nat) (l : List Stm) (x : Stm) (w : World) (hl : SRow w A n c l) (hn : n < 1000) (hx : Fit au x) (hb : ∀ s ∈ l, s.list = [] ∧ s.pins = []) (j : Nat) (hj : j ≤ n)
    (hlo : ∀ i, i < j → beforeB (l.getD i noStm) x = true) (hhi : j < n → beforeB (l.getD j noStm) x = false ∧ sameS (l.getD j noStm) x = false) :
    Calls Tryz.prog 29 #[.agg #[.slice A n c], stmV x none 0 0 none 0 0] w fun e w' => ∃ A2 c2, e = .returned (.agg #[.slice A2 (n + 1) c2]) ∧ SRow w' A2 (n + 1) c2 (l.take j ++ x :: l.drop j) ∧ Below w.heap.size w w' := by
  have HCK : Hid (∀ y, Calls Tryz.prog 49 #[stmV x none 0 0 none 0 0] y (SaysL (.int .i64 0) y)) := Lib.hid fun y => by
    have h := refCheck_any x none 0 0 none 0 0 y (by rw [hx.bare.1]; exact Row.nilRow _ _) (by rw [hx.bare.2.1]; exact Row.nilRow _ _) (by omega) (by omega) (by have := hx.bare.2.2.1.body; omega)
    rw [hx.check] at h
    exact h
  have HSE : Hid (∀ y, Calls Tryz.prog 50 #[stmV x none 0 0 none 0 0] y (SaysL (.bool true) y)) := Lib.hid fun y => by
    have h := refSealed_any x none 0 0 none 0 0 y (by rw [hx.bare.1]; exact Row.nilRow _ _) (by rw [hx.bare.2.1]; exact Row.nilRow _ _) hx.bare.2.2.1
    rw [hx.sealed] at h
    exact h
  have HPU : Hid (∀ y, Below w.heap.size w y → Calls Tryz.prog 51 #[.slice A n c, stmV x none 0 0 none 0 0] y fun e w' => ∃ A2 c2, e = .returned (.tuple #[.slice A2 (n + 1) c2, .bool true]) ∧ SRow w' A2 (n + 1) c2 (l.take j ++ x :: l.drop j) ∧ Below y.heap.size y w') := Lib.hid fun y h => put_any A n c l x y (hl.later h) (by omega) ⟨hx.bare.1, hx.bare.2.1⟩ hb j hj hlo hhi
  obtain ⟨XA, eX, zX, oX⟩ := one13 x none 0 0 none 0 0
  rw [eX] at HCK HSE HPU ⊢
  have HZX := Lib.hid zX; have HOX := Lib.hid oX
  generalize l.take j ++ x :: l.drop j = L at HPU ⊢
  clear hl hx hb hlo hhi eX zX oX hj
  have HB : Hid (Below w.heap.size w (((w.alloc (.cells #[.slice A n c] 40)).alloc (.cells XA 27)).alloc (.cells #[.slice none 0 0] 40))) := Lib.hid ((one_new w _).trans (((one_new (w.alloc _) _).trans ((one_new _ _).mono (by simp))).mono (by simp)))
  have HX : Hid ((((w.alloc (.cells #[.slice A n c] 40)).alloc (.cells XA 27)).alloc (.cells #[.slice none 0 0] 40)).heap[w.heap.size]? = some (.cells #[.slice A n c] 40 (0, 0))) := Lib.hid ((Below.heap_alloc _ _ _ (by simp; omega)).trans ((Below.heap_alloc _ _ _ (by simp)).trans (heap_alloc_new _ _)))
  have HY : Hid ((((w.alloc (.cells #[.slice A n c] 40)).alloc (.cells XA 27)).alloc (.cells #[.slice none 0 0] 40)).heap[w.heap.size + 1]? = some (.cells XA 27 (0, 0))) := Lib.hid ((Below.heap_alloc _ _ _ (by simp)).trans (heap_alloc2_new _ _ _))
  have HW : Hid ((((w.alloc (.cells #[.slice A n c] 40)).alloc (.cells XA 27)).alloc (.cells #[.slice none 0 0] 40)).heap[w.heap.size + 2]? = some (.cells #[.slice none 0 0] 40 (0, 0))) := Lib.hid (by
    have h := heap_alloc_new ((w.alloc (.cells #[.slice A n c] 40)).alloc (.cells XA 27)) (.cells #[.slice none 0 0] 40)
    rw [show ((w.alloc (.cells #[.slice A n c] 40)).alloc (.cells XA 27)).heap.size = w.heap.size + 2 by simp] at h
    exact h)
  go_enter Tryz.func29, Tryz.ntmps29
  go_wp2_with (refine wpList_load_row rfl 27 (.tmp 3) rfl (w.heap.size + 1) rfl 27 XA (0, 0) _ HY.out Tryz.underlying27 rfl (by rw [HZX.out]; kernel_rfl) ?_)
  refine (HCK.out _).mono ?_
  generalize ((w.alloc (.cells #[.slice A n c] 40)).alloc (.cells XA 27)).alloc (.cells #[.slice none 0 0] 40) = y0 at *
  rintro e w1 ⟨rfl, hb⟩
  replace HX := Lib.hid ((hb.block _ (Array.getElem?_eq_some_iff.1 HX.out).1).trans HX.out)
  replace HY := Lib.hid ((hb.block _ (Array.getElem?_eq_some_iff.1 HY.out).1).trans HY.out)
  replace HW := Lib.hid ((hb.block _ (Array.getElem?_eq_some_iff.1 HW.out).1).trans HW.out)
  replace HB := Lib.hid (HB.out.trans (hb.mono HB.out.size))
  clear hb
  go_wp2_with (refine wpList_load_rowG rfl 27 (.tmp 3) rfl (w.heap.size + 1) rfl 27 XA (0, 0) _ HY.out Tryz.underlying27 rfl (by rw [HZX.out]; kernel_rfl) ?_)
  refine (HSE.out _).mono ?_
  rintro e w2 ⟨rfl, hb⟩
  replace HX := Lib.hid ((hb.block _ (Array.getElem?_eq_some_iff.1 HX.out).1).trans HX.out)
  replace HY := Lib.hid ((hb.block _ (Array.getElem?_eq_some_iff.1 HY.out).1).trans HY.out)
  replace HW := Lib.hid ((hb.block _ (Array.getElem?_eq_some_iff.1 HW.out).1).trans HW.out)
  replace HB := Lib.hid (HB.out.trans (hb.mono HB.out.size))
  clear hb
  have hc := (cell_of_row _ _ 0 _ _ _ HX.out).trans rfl
  go_wp2_with (refine wpList_load_row rfl 27 (.tmp 3) rfl (w.heap.size + 1) rfl 27 XA (0, 0) _ HY.out Tryz.underlying27 rfl (by rw [HZX.out]; kernel_rfl) ?_)
  clear hc
  refine (HPU.out _ HB.out).mono ?_
  rintro e w3 ⟨A2, c2, rfl, hr, hb⟩
  replace HX := Lib.hid ((hb.block _ (Array.getElem?_eq_some_iff.1 HX.out).1).trans HX.out)
  replace HY := Lib.hid ((hb.block _ (Array.getElem?_eq_some_iff.1 HY.out).1).trans HY.out)
  replace HW := Lib.hid ((hb.block _ (Array.getElem?_eq_some_iff.1 HW.out).1).trans HW.out)
  replace HB := Lib.hid (HB.out.trans (hb.mono HB.out.size))
  have HR := Lib.hid hr; clear hb hr
  have hle : ((n + 1 : Nat) : Int) ≤ 1000 := by omega
  go_wp2_with (refine wpList_store_row rfl 40 (.tmp 4) (.tmp 27) rfl (w.heap.size + 2) #[.slice A2 (n + 1) c2] rfl rfl 40 _ HW.out (by kernel_rfl) rfl (by simp [Value.oneCell']) ?_)
  refine bodyPost_ret (v := .agg #[.slice A2 (n + 1) c2]) (results_cell_row rfl _ _ (w.heap.size + 2) 40 #[.slice A2 (n + 1) c2] (0, 0) _ rfl (setRow_heap _ _ _ #[.slice A2 (n + 1) c2] _ _ HW.out) Tryz.underlying40 rfl (by kernel_rfl)) rfl ?_
  refine ⟨A2, c2, rfl, ?_, below_setRow HB.out (by omega) _⟩
  exact Row.keep HR.out fun ad hA h0 hlt => setRow_other _ _ _ _ (row_not HR.out HW.out ad hA h0)
end Go.Proofs.YtkglgboncngpbaaGreatDoor
