import Derived.Test.YtkglgboncngpbaaGreatDoorPackAC
import Derived.Maps.RangeRun
import Derived.MapKept
import Derived.LoopN
/- Maps whose keys are strings and whose elements are whatever they are, as the heap holds them: filled, looked into, ranged over. Plain facts over any program. -/
namespace Go.Proofs.YtkglgboncngpbaaGreatDoor
open Go.RowKit Go Go.ChangeMaps
/-- The entries that hold some pairs, laid in their order, none taken away. -/
def entsFrom : List (ByteArray × Value) → Nat → List MapEntry
  | [], _ => []
  | p :: l, i => ⟨.string p.1, p.2, i⟩ :: entsFrom l (i + 1)
theorem entsFrom_app (l m : List (ByteArray × Value)) : ∀ i, entsFrom (l ++ m) i = entsFrom l i ++ entsFrom m (i + l.length) := by
  induction l with
  | nil => intro i; rfl
  | cons p l ih =>
    intro i
    simp only [List.cons_append, entsFrom, ih (i + 1), List.length_cons]
    rw [show i + 1 + l.length = i + (l.length + 1) by omega]
theorem entsFrom_len (l : List (ByteArray × Value)) : ∀ i, (entsFrom l i).length = l.length := by
  induction l with
  | nil => intro i; rfl
  | cons p l ih => intro i; simp only [entsFrom, List.length_cons, ih (i + 1)]
theorem entsFrom_born (l : List (ByteArray × Value)) : ∀ i, (entsFrom l i).map (·.born) = List.range' i l.length := by
  induction l with
  | nil => intro i; rfl
  | cons p l ih => intro i; simp only [entsFrom, List.map_cons, List.length_cons, ih (i + 1), List.range'_succ]
theorem entsFrom_mem (l : List (ByteArray × Value)) : ∀ i (e : MapEntry), e ∈ entsFrom l i → ∃ j k v, l[j]? = some (k, v) ∧ e = ⟨.string k, v, i + j⟩ := by
  induction l with
  | nil => intro i e h; cases h
  | cons p l ih =>
    intro i e h
    simp only [entsFrom, List.mem_cons] at h
    rcases h with h | h
    · exact ⟨0, p.1, p.2, rfl, h⟩
    · obtain ⟨j, k, v, h1, h2⟩ := ih (i + 1) e h
      exact ⟨j + 1, k, v, by simpa using h1, by rw [h2, show i + 1 + j = i + (j + 1) by omega]⟩
theorem entsFrom_at (l : List (ByteArray × Value)) : ∀ i j k v, l[j]? = some (k, v) → (⟨.string k, v, i + j⟩ : MapEntry) ∈ entsFrom l i := by
  induction l with
  | nil => intro i j k v h; cases h
  | cons p l ih =>
    intro i j k v h
    cases j with
    | zero =>
      have e : p = (k, v) := by simpa using h
      subst e
      exact List.mem_cons_self
    | succ j =>
      have := ih (i + 1) j k v (by simpa using h)
      rw [show i + 1 + j = i + (j + 1) by omega] at this
      exact List.mem_cons_of_mem _ this
/-- The map in block b holds the pairs l. -/
def MapAt (w : World) (b : Nat) (l : List (ByteArray × Value)) : Prop := w.heap[b]? = some (.map (entsFrom l 0).toArray l.length)
theorem MapAt.lt {w : World} {b : Nat} {l : List (ByteArray × Value)} (h : MapAt w b l) : b < w.heap.size := (Array.getElem?_eq_some_iff.1 h).1
theorem MapAt.but {w w' : World} {b D : Nat} {l : List (ByteArray × Value)} (h : MapAt w b l) (hb : But D w w') (hne : b ≠ D) : MapAt w' b l := (hb.block b h.lt hne).trans h
theorem MapAt.later {w w' : World} {b : Nat} {l : List (ByteArray × Value)} (h : MapAt w b l) (hb : Below w.heap.size w w') : MapAt w' b l := (hb.block b h.lt).trans h
theorem mapAt_new (w : World) : MapAt (w.alloc (.map #[] 0)) w.heap.size [] := heap_alloc_new w _
theorem ba_ne {a b : ByteArray} (h : a ≠ b) : (a == b) = false := by
  obtain ⟨a⟩ := a
  obtain ⟨b⟩ := b
  show (a == b) = false
  exact beq_eq_false_iff_ne.2 (fun e => h (by rw [e]))
theorem ba_eq (a : ByteArray) : (a == a) = true := by
  obtain ⟨a⟩ := a
  show (a == a) = true
  exact beq_self_eq_true a
theorem findNow_no (k : ByteArray) (l : List (ByteArray × Value)) (h : ∀ p ∈ l, p.1 ≠ k) : ∀ i j, Instr.findNow .string (.string k) (entsFrom l i) j = some none := by
  induction l with
  | nil => intro i j; rfl
  | cons p l ih =>
    intro i j
    have h1 : (k == p.1) = false := ba_ne (fun e => h p List.mem_cons_self e.symm)
    simp only [entsFrom, Instr.findNow, Instr.sameNow, h1]
    exact ih (fun q hq => h q (List.mem_cons_of_mem _ hq)) _ _
theorem findNow_yes (k : ByteArray) (v : Value) (l2 : List (ByteArray × Value)) (l1 : List (ByteArray × Value)) (h : ∀ p ∈ l1, p.1 ≠ k) : ∀ i j, Instr.findNow .string (.string k) (entsFrom (l1 ++ (k, v) :: l2) i) j = some (some (j + l1.length, v)) := by
  induction l1 with
  | nil =>
    intro i j
    simp only [List.nil_append, entsFrom, Instr.findNow, Instr.sameNow, ba_eq, List.length_nil, Nat.add_zero]
  | cons p l ih =>
    intro i j
    have h1 : (k == p.1) = false := ba_ne (fun e => h p List.mem_cons_self e.symm)
    simp only [List.cons_append, entsFrom, Instr.findNow, Instr.sameNow, h1]
    rw [ih (fun q hq => h q (List.mem_cons_of_mem _ hq)) (i + 1) (j + 1), List.length_cons, show j + 1 + l.length = j + (l.length + 1) by omega]
theorem setBlock_at {w : World} {b : Nat} {o x : Obj} (h : w.heap[b]? = some x) : (setBlock w b o).heap[b]? = some o := by
  have hlt := (Array.getElem?_eq_some_iff.1 h).1
  simp [setBlock, hlt]
theorem setBlock_but (w : World) (b : Nat) (o : Obj) : But b w (setBlock w b o) :=
  ⟨rfl, rfl, rfl, by simp [setBlock], fun k _ hne => by simp [setBlock, Ne.symm hne]⟩
section
variable {P : Program} {t kt et : TypeId} {w : World} {b : Nat} {l : List (ByteArray × Value)}
theorem run_checkString (hk : P.underlying kt = some .string) (k : ByteArray) (e : Bool) (n : Nat) (w : World) : (Instr.checkKey e (n + 1) kt (.string k)).run P w = .ok () w := by
  unfold Instr.checkKey
  simp only [Sem.run_bind, run_underlying hk, Result.andThen]
  rfl
/-- m[k] = v, k not among the keys. -/
theorem run_put (hm : MapAt w b l) (ht : P.underlying t = some (.map kt et)) (hk : P.underlying kt = some .string) (k : ByteArray) (v : Value) (hn : ∀ p ∈ l, p.1 ≠ k) :
    (Instr.mapUpdate t (.map (some b)) (.string k) v).run P w = .ok () (setBlock w b (.map (entsFrom (l ++ [(k, v)]) 0).toArray (l ++ [(k, v)]).length)) := by
  have hf : (Instr.findKey kt (.string k) (entsFrom l 0)).run P w = .ok none w := by
    simp [Instr.findKey, run_underlying hk, findNow_no k l hn, Result.andThen]
  have hp : (entsFrom l 0).toArray.push ⟨.string k, v, l.length⟩ = (entsFrom (l ++ [(k, v)]) 0).toArray := by
    rw [entsFrom_app]; simp [entsFrom]
  simp only [Instr.mapUpdate, Sem.run_bind, run_underlying ht, Result.andThen_ok, MapKept.run_getObj_map hm, run_checkString hk k false 9999 w, hf, MapKept.run_setObj_map _ hm]
  rw [hp]
  simp [setBlock]
/-- m[k], k the key of a pair. -/
theorem run_has {l1 l2 : List (ByteArray × Value)} {k : ByteArray} {v : Value} (hm : MapAt w b (l1 ++ (k, v) :: l2)) (ht : P.underlying t = some (.map kt et)) (hk : P.underlying kt = some .string) (h1 : ∀ p ∈ l1, p.1 ≠ k) :
    (Instr.lookup t (.map (some b)) (.string k) false).run P w = .ok v w := by
  have hf : (Instr.findKey kt (.string k) (entsFrom (l1 ++ (k, v) :: l2) 0)).run P w = .ok (some (0 + l1.length, v)) w := by
    simp [Instr.findKey, run_underlying hk, findNow_yes k v l2 l1 h1, Result.andThen]
  simp [Instr.lookup, Sem.run_bind, run_underlying ht, Result.andThen_ok, MapKept.run_getObj_map hm, run_checkString hk k _ 9999 w, hf]
/-- v, ok := m[k], k the key of a pair. -/
theorem run_has2 {l1 l2 : List (ByteArray × Value)} {k : ByteArray} {v : Value} (hm : MapAt w b (l1 ++ (k, v) :: l2)) (ht : P.underlying t = some (.map kt et)) (hk : P.underlying kt = some .string) (h1 : ∀ p ∈ l1, p.1 ≠ k) :
    (Instr.lookup t (.map (some b)) (.string k) true).run P w = .ok (.tuple #[v, .bool true]) w := by
  have hf : (Instr.findKey kt (.string k) (entsFrom (l1 ++ (k, v) :: l2) 0)).run P w = .ok (some (0 + l1.length, v)) w := by
    simp [Instr.findKey, run_underlying hk, findNow_yes k v l2 l1 h1, Result.andThen]
  simp [Instr.lookup, Sem.run_bind, run_underlying ht, Result.andThen_ok, MapKept.run_getObj_map hm, run_checkString hk k _ 9999 w, hf]
/-- v, ok := m[k], k no key. -/
theorem run_hasnot2 {k : ByteArray} {z : Value} (hm : MapAt w b l) (ht : P.underlying t = some (.map kt et)) (hk : P.underlying kt = some .string) (hz : (zeroValue et).run P w = .ok z w) (h1 : ∀ p ∈ l, p.1 ≠ k) :
    (Instr.lookup t (.map (some b)) (.string k) true).run P w = .ok (.tuple #[z, .bool false]) w := by
  have hf : (Instr.findKey kt (.string k) (entsFrom l 0)).run P w = .ok none w := by
    simp [Instr.findKey, run_underlying hk, findNow_no k l h1, Result.andThen]
  simp [Instr.lookup, Sem.run_bind, run_underlying ht, Result.andThen_ok, MapKept.run_getObj_map hm, run_checkString hk k _ 9999 w, hf, hz]
/-- An iterator in block r over the map in block b, of n pairs; those that have come. -/
def IterAt (w : World) (r b n : Nat) (seen : Array Nat) : Prop := w.heap[r]? = some (.mapIter (some b) n seen n)
theorem IterAt.lt {w : World} {r b n : Nat} {seen : Array Nat} (h : IterAt w r b n seen) : r < w.heap.size := (Array.getElem?_eq_some_iff.1 h).1
theorem IterAt.but {w w' : World} {r b n D : Nat} {seen : Array Nat} (h : IterAt w r b n seen) (hb : But D w w') (hne : r ≠ D) : IterAt w' r b n seen := (hb.block r h.lt hne).trans h
theorem IterAt.later {w w' : World} {r b n : Nat} {seen : Array Nat} (h : IterAt w r b n seen) (hb : Below w.heap.size w w') : IterAt w' r b n seen := (hb.block r h.lt).trans h
theorem run_over (hm : MapAt w b l) (ht : P.underlying t = some (.map kt et)) :
    (Instr.range t (.map (some b))).run P w = .ok (.pointer (some ⟨w.heap.size, 0, none⟩)) (w.alloc (.mapIter (some b) l.length #[] l.length)) := run_range_map w t kt et b _ _ ht hm
/-- The next pair, whichever it is; or there is none left. -/
theorem run_nextPair {r : Nat} {seen : Array Nat} (hr : IterAt w r b l.length seen) (hm : MapAt w b l) (ty : TypeId) :
    ((∀ j, j < l.length → seen.contains j = true) ∧ (Instr.next (.pointer (some ⟨r, 0, none⟩)) false ty).run P w = .ok (.tuple #[.bool false]) w) ∨
    ∃ j k v w', l[j]? = some (k, v) ∧ seen.contains j = false ∧ (Instr.next (.pointer (some ⟨r, 0, none⟩)) false ty).run P w = .ok (.tuple #[.bool true, .string k, v]) w' ∧ IterAt w' r b l.length (seen.push j) ∧ But r w w' ∧ (leftOf (entsFrom l 0).toArray (seen.push j)).size < (leftOf (entsFrom l 0).toArray seen).size := by
  have hborn : ∀ x ∈ (entsFrom l 0).toArray.toList, x.born < l.length := fun x hx => by
    obtain ⟨j, k, v, h1, h2⟩ := entsFrom_mem l 0 x hx
    subst h2
    have := (List.getElem?_eq_some_iff.1 h1).1
    show 0 + j < l.length
    omega
  rcases run_next_at (P := P) w ty r b l.length l.length seen _ _ hr hm hborn (Nat.le_refl _) with ⟨h0, h1⟩ | ⟨e, he, w1, hw1, h1⟩
  · refine .inl ⟨fun j hj => ?_, h1⟩
    have hm2 : (⟨.string l[j].1, l[j].2, 0 + j⟩ : MapEntry) ∈ entsFrom l 0 := entsFrom_at l 0 j _ _ (by rw [List.getElem?_eq_getElem hj])
    cases hc : seen.contains j with
    | true => rfl
    | false =>
      have hin : (⟨.string l[j].1, l[j].2, 0 + j⟩ : MapEntry) ∈ leftOf (entsFrom l 0).toArray seen := by
        unfold leftOf
        rw [Array.mem_filter]
        refine ⟨by simpa using hm2, ?_⟩
        show (!seen.contains (0 + j)) = true
        rw [Nat.zero_add, hc]; rfl
      have := Array.size_pos_of_mem hin
      omega
  · have he2 : e ∈ leftOf (entsFrom l 0).toArray seen := by simpa using he
    unfold leftOf at he2
    rw [Array.mem_filter] at he2
    obtain ⟨j, k, v, h2, h3⟩ := entsFrom_mem l 0 e (by simpa using he2.1)
    subst h3
    have hsh := left_shrinks _ _ _ he
    rw [Nat.zero_add] at h1 he2 hsh
    refine .inr ⟨j, k, v, _, h2, ?_, h1, ?_, ?_, hsh⟩
    · have := he2.2
      simpa using this
    · have hr1 : w1.heap[r]? = some (.mapIter (some b) l.length seen l.length) := by rcases hw1 with rfl | rfl <;> exact hr
      exact setBlock_at hr1
    · rcases hw1 with rfl | rfl
      · exact setBlock_but _ _ _
      · exact But.trans (b := w.drew) ⟨rfl, rfl, rfl, Nat.le_refl _, fun _ _ _ => rfl⟩ (setBlock_but _ _ _)
/-- How many pairs have not come yet. -/
def leftW (w : World) (r b : Nat) : Nat :=
  match w.heap[r]?, w.heap[b]? with
  | some (.mapIter _ _ seen _), some (.map es _) => (leftOf es seen).size
  | _, _ => 0
theorem leftW_eq {r n : Nat} {seen : Array Nat} (hr : IterAt w r b n seen) (hm : MapAt w b l) : leftW w r b = (leftOf (entsFrom l 0).toArray seen).size := by
  unfold leftW
  rw [hr, hm]
/-- The pair that has come, read again. -/
theorem run_pair {r : Nat} {seen : Array Nat} {j : Nat} {k : ByteArray} {v : Value} (hr : IterAt w r b l.length (seen.push j)) (hm : MapAt w b l) (hj : l[j]? = some (k, v)) :
    (Instr.entry (.pointer (some ⟨r, 0, none⟩))).run P w = .ok (.tuple #[.string k, v]) w := by
  have he := entsFrom_at l 0 j k v hj
  rw [Nat.zero_add] at he
  exact run_entry_at (P := P) w r b l.length seen (entsFrom l 0).toArray l.length ⟨.string k, v, j⟩ hr hm (by simpa using he) (by
    show ((entsFrom l 0).map (·.born)).Nodup
    rw [entsFrom_born]
    exact List.nodup_range')
end
end Go.Proofs.YtkglgboncngpbaaGreatDoor
/- Rows of statements that have no lists, and the map of what was found. -/
namespace Go.Proofs.YtkglgboncngpbaaGreatDoor
open Go.RowKit
def noStm : Stm := ⟨0, 0, ⟨#[]⟩, 0, 0, 0, 0, 0, [], [], ⟨#[]⟩, 0, ⟨#[]⟩⟩
def cellsS (s : Stm) : List Value := [.int .i64 s.author, .int .i64 s.number, .string s.prev, .int .i64 s.time, .int .i64 s.kind, .int .i64 s.a, .int .i64 s.b, .int .i64 s.c, .slice none 0 0, .slice none 0 0, .string s.body, .int .i64 s.key, .string s.dig]
def stmsC (l : List Stm) : List Value := l.flatMap cellsS
theorem stmsC_len (l : List Stm) : (stmsC l).length = l.length * 13 := by
  induction l with
  | nil => rfl
  | cons s l ih => simp only [stmsC, List.flatMap_cons, List.length_append, List.length_cons] at *; rw [ih]; show 13 + _ = _; omega
theorem stmsC_app (l m : List Stm) : stmsC (l ++ m) = stmsC l ++ stmsC m := by simp [stmsC]
theorem stmsC_single (s : Stm) : stmsC [s] = cellsS s := by simp [stmsC]
theorem stmsC_one (l : List Stm) : ∀ u ∈ stmsC l, u.oneCell' = true := by
  intro u hu
  simp only [stmsC, List.mem_flatMap] at hu
  obtain ⟨s, _, hs⟩ := hu
  simp only [cellsS, List.mem_cons, List.not_mem_nil, or_false] at hs
  rcases hs with h | h | h | h | h | h | h | h | h | h | h | h | h <;> (subst h; rfl)
theorem stmsC_drop (l : List Stm) : ∀ k, (stmsC l).drop (k * 13) = stmsC (l.drop k) := by
  induction l with
  | nil => intro k; simp [stmsC]
  | cons s l ih =>
    intro k
    cases k with
    | zero => rw [Nat.zero_mul]; rfl
    | succ k =>
      rw [List.drop_succ_cons, ← ih k]
      simp only [stmsC, List.flatMap_cons, cellsS]
      rw [show (k + 1) * 13 = k * 13 + 13 by omega]
      rfl
/-- A slice that reads as statements without lists. -/
def SRow (w : World) (A : Option Addr) (n c : Nat) (l : List Stm) : Prop := Row w A n c 13 (stmsC l)
theorem SRow.len {w : World} {A : Option Addr} {n c : Nat} {l : List Stm} (h : SRow w A n c l) : l.length = n := by
  have := Row.len h; rw [stmsC_len] at this; omega
theorem SRow.later {w w' : World} {A : Option Addr} {n c : Nat} {l : List Stm} (h : SRow w A n c l) (hb : Later w w') : SRow w' A n c l := Row.later h hb
set_option maxHeartbeats 1000000 in
/-- The cells of statement k. -/
theorem SRow.cells {w : World} {A : Option Addr} {n c : Nat} {l : List Stm} (h : SRow w A n c l) (k : Nat) (hk : k < n) :
    ∃ b off, A = some ⟨b, off, none⟩ ∧ w.cell? ⟨b, off + k * 13, none⟩ = some (.int .i64 (l.getD k noStm).author) ∧ w.cell? ⟨b, off + k * 13 + 1, none⟩ = some (.int .i64 (l.getD k noStm).number) ∧ w.cell? ⟨b, off + k * 13 + 2, none⟩ = some (.string (l.getD k noStm).prev) ∧ w.cell? ⟨b, off + k * 13 + 3, none⟩ = some (.int .i64 (l.getD k noStm).time) ∧ w.cell? ⟨b, off + k * 13 + 4, none⟩ = some (.int .i64 (l.getD k noStm).kind) ∧ w.cell? ⟨b, off + k * 13 + 5, none⟩ = some (.int .i64 (l.getD k noStm).a) ∧ w.cell? ⟨b, off + k * 13 + 6, none⟩ = some (.int .i64 (l.getD k noStm).b) ∧ w.cell? ⟨b, off + k * 13 + 7, none⟩ = some (.int .i64 (l.getD k noStm).c) ∧ w.cell? ⟨b, off + k * 13 + 8, none⟩ = some (.slice none 0 0) ∧ w.cell? ⟨b, off + k * 13 + 9, none⟩ = some (.slice none 0 0) ∧ w.cell? ⟨b, off + k * 13 + 10, none⟩ = some (.string (l.getD k noStm).body) ∧ w.cell? ⟨b, off + k * 13 + 11, none⟩ = some (.int .i64 (l.getD k noStm).key) ∧ w.cell? ⟨b, off + k * 13 + 12, none⟩ = some (.string (l.getD k noStm).dig) := by
  obtain ⟨b, off, hA, hc⟩ := Row.form h (by omega)
  have hl := h.len
  have h0 : ∀ j, (stmsC l)[k * 13 + j]? = (stmsC (l.drop k))[j]? := fun j => by rw [← stmsC_drop, List.getElem?_drop]
  have h1 : l.drop k = l.getD k noStm :: l.drop (k + 1) := by
    rw [List.drop_eq_getElem_cons (by omega)]; simp [show k < l.length by omega]
  have h2 : ∀ j, j < 13 → w.cell? ⟨b, off + (k * 13 + j), none⟩ = (cellsS (l.getD k noStm))[j]? := fun j hj => by
    rw [hc _ (by omega), h0, h1]
    show (cellsS (l.getD k noStm) ++ stmsC (l.drop (k + 1)))[j]? = _
    rw [List.getElem?_append_left (by show j < 13; exact hj)]
  exact ⟨b, off, hA, h2 0 (by decide), by rw [Nat.add_assoc]; exact h2 1 (by decide), by rw [Nat.add_assoc]; exact h2 2 (by decide), by rw [Nat.add_assoc]; exact h2 3 (by decide), by rw [Nat.add_assoc]; exact h2 4 (by decide), by rw [Nat.add_assoc]; exact h2 5 (by decide), by rw [Nat.add_assoc]; exact h2 6 (by decide), by rw [Nat.add_assoc]; exact h2 7 (by decide), by rw [Nat.add_assoc]; exact h2 8 (by decide), by rw [Nat.add_assoc]; exact h2 9 (by decide), by rw [Nat.add_assoc]; exact h2 10 (by decide), by rw [Nat.add_assoc]; exact h2 11 (by decide), by rw [Nat.add_assoc]; exact h2 12 (by decide)⟩
/-- The statement as a map's element, under its digest. -/
def pairS (s : Stm) : ByteArray × Value := (s.dig, stmV s none 0 0 none 0 0)
/-- Statements of one author, well formed and sealed, no two of one digest. -/
structure Good (au : Int) (l : List Stm) : Prop where
  author : ∀ s ∈ l, s.author = au
  check : ∀ s ∈ l, checkV s = 0
  sealed : ∀ s ∈ l, sealedB s = true
  bare : ∀ s ∈ l, s.list = [] ∧ s.pins = [] ∧ Small s ∧ 0 ≤ s.number ∧ s.number < 200
  nodup : (l.map (·.dig)).Nodup
end Go.Proofs.YtkglgboncngpbaaGreatDoor
/- A region that draws its order, walked step by step: readers, and at each fork all operations that may come up. Plain facts over any program. -/
namespace Go.Proofs.YtkglgboncngpbaaGreatDoor
open Go.RowKit Go
section
variable {P : Program} {md : Region.Mode} {F : World → World → Prop}
theorem wpOp_of {l : List Oper} {Q : Exit → Act → World → Prop} {N R : Act → World → Prop} {e : Nat} (h3 : e < l.length) {a : Act} {w : World} (hK : ∀ a'' w', (F w w' ∧ N a'' w') → R a'' w')
    (ha : wpList P l.toArray (pieceEnd fun a'' w' => F w w' ∧ N a'' w') [pick l e] a w) : wpOp P l.toArray (NoPanic Q) e R a w := by
  unfold wpOp
  simp only [pick_at h3]
  unfold wpList at ha
  split at ha
  · rename_i hw
    rw [if_pos hw]
    rcases ha with ha | ⟨_, ⟨_, _, hx⟩⟩
    · refine .inl (wp_post (Q := pieceEnd _) (fun _ _ _ h => h.elim) (fun ⟨_, _, h⟩ => h.elim) (Oper.wp_mono (fun a'' w' h => hK a'' w' h) ha))
    · exact hx.elim
  · rename_i hw
    rw [if_neg hw]
    exact hK _ _ ha
/-- Readers come up and are taken. -/
theorem flow_reads {l : List Oper} {Q : Exit → Act → World → Prop} (hr : ∀ w, F w w) (hs : Region.noSelect l.toArray = true) {fuel : Nat} (is : List Nat) {listed : Array Bool} {a : Act} {w : World} (hB : readsB md l is listed = true)
    (h : wpQuiet P l.toArray (Futs F w) (fun a' => wpAnyH P md l.toArray (NoPanic Q) (Futs F w) fuel (setAll is listed) a' w) (is.map (pick l)) a) :
    wpAnyH P md l.toArray (NoPanic Q) (Futs F w) (is.length + fuel) listed a w :=
  wpAnyH_reads hs (Futs.of (hr w)) is listed a hB h (fun _ h => h)
/-- One operation, whichever comes up. -/
theorem flow_step {l : List Oper} {Q : Exit → Act → World → Prop} (ht : ∀ a b c, F a b → F b c → F a c) (hr : ∀ w, F w w) {fuel : Nat} (es : List Nat) {listed : Array Bool} {a : Act} {w : World} (h2 : (Region.ready md l.toArray listed == es) = true) (h0 : es ≠ []) (h3 : es.all (fun e => decide (e < l.length)) = true)
    (h : ∀ e ∈ es, wpList P l.toArray (pieceEnd fun a'' w' => F w w' ∧ wpAnyH P md l.toArray (NoPanic Q) (Futs F w') fuel (listed.setIfInBounds e true) a'' w') [pick l e] a w) :
    wpAnyH P md l.toArray (NoPanic Q) (Futs F w) (fuel + 1) listed a w := by
  have h2' : Region.ready md l.toArray listed = es := by simpa using h2
  refine wpAnyH_all h2' h0 (fun i hi => ?_)
  have hi3 : i < l.length := by simpa using List.all_eq_true.1 h3 i hi
  exact wpOp_of (F := F) hi3 (fun a'' w' ⟨hF, hg⟩ => ⟨Futs.of hF, wpAnyH_mono (fun x hx => Futs.of (ht _ _ _ hF (hx.to hr))) _ _ _ _ hg⟩) (h i hi)
theorem flow_one {l : List Oper} {Q : Exit → Act → World → Prop} (ht : ∀ a b c, F a b → F b c → F a c) (hr : ∀ w, F w w) {fuel : Nat} (e : Nat) {listed : Array Bool} {a : Act} {w : World} (h2 : (Region.ready md l.toArray listed == [e]) = true) (h3 : e < l.length)
    (h : wpList P l.toArray (pieceEnd fun a'' w' => F w w' ∧ wpAnyH P md l.toArray (NoPanic Q) (Futs F w') fuel (listed.setIfInBounds e true) a'' w') [pick l e] a w) :
    wpAnyH P md l.toArray (NoPanic Q) (Futs F w) (fuel + 1) listed a w :=
  flow_step ht hr [e] h2 (by simp) (by simpa using h3) (fun i hi => by
    have : i = e := by simpa using hi
    rw [this]; exact h)
theorem flow_two {l : List Oper} {Q : Exit → Act → World → Prop} (ht : ∀ a b c, F a b → F b c → F a c) (hr : ∀ w, F w w) {fuel : Nat} (e1 e2 : Nat) {listed : Array Bool} {a : Act} {w : World} (h2 : (Region.ready md l.toArray listed == [e1, e2]) = true) (h3 : e1 < l.length) (h4 : e2 < l.length)
    (h : wpList P l.toArray (pieceEnd fun a'' w' => F w w' ∧ wpAnyH P md l.toArray (NoPanic Q) (Futs F w') fuel (listed.setIfInBounds e1 true) a'' w') [pick l e1] a w)
    (h' : wpList P l.toArray (pieceEnd fun a'' w' => F w w' ∧ wpAnyH P md l.toArray (NoPanic Q) (Futs F w') fuel (listed.setIfInBounds e2 true) a'' w') [pick l e2] a w) :
    wpAnyH P md l.toArray (NoPanic Q) (Futs F w) (fuel + 1) listed a w :=
  flow_step ht hr [e1, e2] h2 (by simp) (by simp [h3, h4]) (fun i hi => by
    have : i = e1 ∨ i = e2 := by simpa using hi
    rcases this with rfl | rfl
    · exact h
    · exact h')
theorem flow_done {l : List Oper} {Q : Exit → Act → World → Prop} {listed : Array Bool} {a : Act} {w : World} (h2 : (Region.ready md l.toArray listed).isEmpty = true) (h : Q .normal a w) :
    wpAnyH P md l.toArray (NoPanic Q) (Futs F w) 0 listed a w := ⟨by simpa using h2, h⟩
theorem wp_region_flow {l : List Oper} {id : Nat} {Q : Exit → Act → World → Prop} {a : Act} {w : World} (hm : P.follows .mixedOrders = true) (F : World → World → Prop)
    (h : wpAnyH P .any l.toArray (NoPanic Q) (Futs F w.drew) l.length (Array.replicate l.length false) a w.drew) : (Code.region id l.toArray true).wp P Q a w := by
  refine wp_region_noPanic (wp_region_held hm (S := Futs F w.drew) ?_)
  rw [List.size_toArray]
  exact h
end
end Go.Proofs.YtkglgboncngpbaaGreatDoor
/- An array of slices of strings that a call fills, slot by slot. -/
namespace Go.Proofs.YtkglgboncngpbaaGreatDoor
open Go.RowKit
def strsV (l : List ByteArray) : List Value := l.map Value.string
theorem strsV_app (l m : List ByteArray) : strsV (l ++ m) = strsV l ++ strsV m := by simp [strsV]
theorem strsV_one (l : List ByteArray) : ∀ u ∈ strsV l, u.oneCell' = true := by
  intro u hu
  obtain ⟨s, _, rfl⟩ := List.mem_map.1 hu
  rfl
def TOwn (w : World) (B : Nat) (v : Value) (l : List ByteArray) : Prop := w.ownsRow B 9 1 v l.length (strsV l)
theorem own_keep1 {w w' : World} {B : Nat} {e : TypeId} {sz : Nat} {v : Value} {n : Nat} {xs : List Value} (h : w.ownsRow B e sz v n xs) (hk : ∀ g, v.ownBlock = some g → w'.heap[g]? = w.heap[g]?) : w'.ownsRow B e sz v n xs := by
  refine ⟨h.1, ?_⟩
  rcases h.2 with hn | ⟨g, cap, cur, rfl, hg, hgg, rest⟩
  · exact .inl hn
  · exact .inr ⟨g, cap, cur, rfl, hg, (hk g rfl).trans hgg, rest⟩
theorem own_block1 {w : World} {B : Nat} {e : TypeId} {sz : Nat} {v : Value} {n : Nat} {xs : List Value} (h : w.ownsRow B e sz v n xs) {g : Nat} {cs : Array Value} {T : TypeId} {fr : Nat × Nat} (hg : w.heap[g]? = some (.cells cs T fr)) (hne : e ≠ T) : v.ownBlock ≠ some g := by
  intro h1
  rcases h.2 with ⟨hn, _⟩ | ⟨a, cap, cur, rfl, ha, hgg, rest⟩
  · subst hn; cases h1
  have e1 : a = g := by injection h1
  subst e1
  rw [hg] at hgg
  injection hgg with h3
  injection h3 with h4 h5
  exact hne h5.symm
/-- The array in block g holds slices of the call's own, no two in one block; slot n reads as f n. -/
structure Slots (w : World) (g : Nat) (v : Nat → Value) (f : Nat → List ByteArray) : Prop where
  here : w.heap[g]? = some (.cells ((List.range 200).map v).toArray 126 (0, 0))
  own : ∀ n, n < 200 → TOwn w (g + 1) (v n) (f n)
  apart : ∀ n m, n < 200 → m < 200 → n ≠ m → ∀ k, (v n).ownBlock = some k → (v m).ownBlock ≠ some k
theorem Slots.lt {w : World} {g : Nat} {v : Nat → Value} {f : Nat → List ByteArray} (h : Slots w g v f) : g < w.heap.size := (Array.getElem?_eq_some_iff.1 h.here).1
theorem Slots.keep2 {w w' : World} {g : Nat} {v : Nat → Value} {f : Nat → List ByteArray} (h : Slots w g v f) (hg : w'.heap[g]? = w.heap[g]?) (hk : ∀ n, n < 200 → ∀ k, (v n).ownBlock = some k → w'.heap[k]? = w.heap[k]?) : Slots w' g v f :=
  ⟨hg.trans h.here, fun n hn => own_keep1 (h.own n hn) fun k hk' => hk n hn k hk', h.apart⟩
theorem Slots.keep {w w' : World} {g : Nat} {v : Nat → Value} {f : Nat → List ByteArray} (h : Slots w g v f) (hk : ∀ k, g ≤ k → k < w.heap.size → w'.heap[k]? = w.heap[k]?) : Slots w' g v f :=
  ⟨(hk g (Nat.le_refl _) h.lt).trans h.here, fun n hn => own_keep1 (h.own n hn) fun k hk' => by
    have := World.ownsRow.lt (h.own n hn) k hk'
    exact hk k (by omega) this.2, h.apart⟩
theorem Slots.later {w w' : World} {g : Nat} {v : Nat → Value} {f : Nat → List ByteArray} (h : Slots w g v f) (hb : Below w.heap.size w w') : Slots w' g v f := h.keep fun k _ hk => hb.block k hk
/-- Another block has turned, which is none of its own. -/
theorem Slots.but {w w' : World} {g D : Nat} {v : Nat → Value} {f : Nat → List ByteArray} (h : Slots w g v f) (hb : But D w w') (hD : D < g) : Slots w' g v f := h.keep fun k hg hk => hb.block k hk (by omega)
theorem slots_cell (v : Nat → Value) (n : Nat) (hn : n < 200) : ((List.range 200).map v).toArray[n]? = some (v n) := by
  rw [List.getElem?_toArray, List.getElem?_map, List.getElem?_range hn]; rfl
theorem Slots.cell {w : World} {g : Nat} {v : Nat → Value} {f : Nat → List ByteArray} (h : Slots w g v f) (n : Nat) (hn : n < 200) : w.cell? ⟨g, n, none⟩ = some (v n) := by
  rw [cell_of_row _ _ _ _ _ _ h.here]; exact slots_cell v n hn
theorem Slots.nofrz {w : World} {g : Nat} {v : Nat → Value} {f : Nat → List ByteArray} (h : Slots w g v f) (n : Nat) : w.frozen? ⟨g, n, none⟩ = false := frozen_of_row _ _ _ _ _ h.here
def upd {α : Type} (f : Nat → α) (n : Nat) (x : α) : Nat → α := fun k => if k = n then x else f k
theorem upd_at {α : Type} (f : Nat → α) (n : Nat) (x : α) : upd f n x n = x := if_pos rfl
theorem upd_ne {α : Type} (f : Nat → α) {n k : Nat} (x : α) (h : k ≠ n) : upd f n x k = f k := if_neg h
theorem slots_set (v : Nat → Value) (n : Nat) (x : Value) : ((List.range 200).map v).toArray.setIfInBounds n x = ((List.range 200).map (upd v n x)).toArray := by
  apply Array.ext_getElem?
  intro i
  rw [Array.getElem?_setIfInBounds, List.size_toArray, List.length_map, List.length_range, List.getElem?_toArray, List.getElem?_toArray, List.getElem?_map, List.getElem?_map]
  by_cases hi : i < 200
  · rw [List.getElem?_range hi]
    by_cases h : n = i
    · subst h; rw [if_pos rfl, if_pos hi]; show some x = some (upd v n x n); rw [upd_at]
    · rw [if_neg h]; show some (v i) = some (upd v n x i); rw [upd_ne _ _ (fun e => h e.symm)]
  · rw [List.getElem?_eq_none (by rw [List.length_range]; omega)]
    split
    · simp; omega
    · rfl
/-- Slot n's slice has been appended to; the new slice is being stored. -/
theorem Slots.put {w w' : World} {g : Nat} {v : Nat → Value} {f : Nat → List ByteArray} (h : Slots w g v f) (n : Nat) (hn : n < 200) (hb : Below (g + 1) w w') (hk : ∀ k, k < w.heap.size → (v n).ownBlock ≠ some k → w'.heap[k]? = w.heap[k]?)
    {x : Value} {l : List ByteArray} (hx : TOwn w' (g + 1) x l) (hnew : x.ownBlock = (v n).ownBlock ∨ ∃ k, w.heap.size ≤ k ∧ x.ownBlock = some k) : Slots (w'.setCell ⟨g, n, none⟩ x) g (upd v n x) (upd f n l) := by
  have h1 : w'.heap[g]? = some (.cells ((List.range 200).map v).toArray 126 (0, 0)) := (hb.block g (Nat.lt_succ_self _)).trans h.here
  refine ⟨by rw [← slots_set]; exact heap_setCell_same _ _ _ _ _ _ h1, fun m hm => ?_, fun a b ha hb' hne k hk1 hk2 => ?_⟩
  · by_cases e : m = n
    · subst e
      rw [upd_at, upd_at]
      exact ownsRow_setCell_below hx (a := ⟨g, m, none⟩) (Nat.lt_succ_self _) x
    · rw [upd_ne _ _ e, upd_ne _ _ e]
      exact ownsRow_setCell_below (own_keep1 (h.own m hm) fun k hk' => hk k (World.ownsRow.lt (h.own m hm) k hk').2 (h.apart m n hm hn e k hk')) (a := ⟨g, n, none⟩) (Nat.lt_succ_self _) x
  · by_cases ea : a = n
    · subst ea
      rw [upd_at] at hk1
      rw [upd_ne _ _ (fun e => hne e.symm)] at hk2
      rcases hnew with e | ⟨q, hq, e⟩
      · rw [e] at hk1
        exact h.apart a b ha hb' hne k hk1 hk2
      · rw [e] at hk1
        have e2 : q = k := by injection hk1
        have := (World.ownsRow.lt (h.own b hb') k hk2).2
        omega
    · rw [upd_ne _ _ ea] at hk1
      by_cases eb : b = n
      · subst eb
        rw [upd_at] at hk2
        rcases hnew with e | ⟨q, hq, e⟩
        · rw [e] at hk2
          exact h.apart a b ha hb' hne k hk1 hk2
        · rw [e] at hk2
          have e2 : q = k := by injection hk2
          have := (World.ownsRow.lt (h.own a ha) k hk1).2
          omega
      · rw [upd_ne _ _ eb] at hk2
        exact h.apart a b ha hb' hne k hk1 hk2
end Go.Proofs.YtkglgboncngpbaaGreatDoor
/- slices.Sort of at most one string. -/
namespace Go.Proofs.YtkglgboncngpbaaGreatDoor
open Go.RowKit
def Done (w : World) (e : Ending) (w' : World) : Prop := e = .returned (.tuple #[]) ∧ w = w'
set_option maxRecDepth 100000 in
set_option maxHeartbeats 4000000 in
theorem insertion1 (A : Option Addr) (n c : Nat) (w : World) (hn : n ≤ 1) :
    Calls Tryz.prog 130 #[.slice A n c, .int .i64 0, .int .i64 n] w (Done w) := by
  go_enter Tryz.func130, Tryz.ntmps130
  go_wp2_with fail
  refine wp_loop_rounds 1 ?_
  rw [rounds_succ]
  go_wp2
  first | go_end0 | refine bodyPost_ret (results_none rfl _ _ _) rfl ?_
  exact ⟨rfl, rfl⟩
set_option maxRecDepth 100000 in
set_option maxHeartbeats 4000000 in
theorem pdq1 (A : Option Addr) (n c : Nat) (x : Int) (w : World) (hn : n ≤ 1) :
    Calls Tryz.prog 123 #[.slice A n c, .int .i64 0, .int .i64 n, .int .i64 x] w (Done w) := by
  go_enter Tryz.func123, Tryz.ntmps123
  go_wp2_with fail
  refine wp_loop_rounds 1 ?_
  rw [rounds_succ]
  go_wp2_with fail
  refine (insertion1 A n c w hn).mono ?_
  rintro e w1 ⟨rfl, rfl⟩
  go_wp2_with fail
  first | go_end0 | refine bodyPost_ret (results_none rfl _ _ _) rfl ?_
  exact ⟨rfl, rfl⟩
set_option maxRecDepth 100000 in
set_option maxHeartbeats 4000000 in
theorem len_any (n : Nat) (w : World) (hn : n ≤ 1) : Calls Tryz.prog 124 #[.int .u64 n] w fun e w' => (∃ x, e = .returned (.int .i64 x)) ∧ w = w' := by
  have h : n = 0 ∨ n = 1 := by omega
  rcases h with rfl | rfl
  · go_enter Tryz.func124, Tryz.ntmps124
    go_wp2
    go_ret
    exact ⟨⟨_, rfl⟩, rfl⟩
  · go_enter Tryz.func124, Tryz.ntmps124
    go_wp2
    go_ret
    exact ⟨⟨_, rfl⟩, rfl⟩
set_option maxRecDepth 100000 in
set_option maxHeartbeats 4000000 in
theorem sort1 (A : Option Addr) (n c : Nat) (w : World) (hn : n ≤ 1) : Calls Tryz.prog 116 #[.slice A n c] w (Done w) := by
  go_enter Tryz.func116, Tryz.ntmps116
  go_wp2_with fail
  refine (len_any n w hn).mono ?_
  rintro e w1 ⟨⟨x, rfl⟩, rfl⟩
  go_wp2_with fail
  refine (pdq1 A n c x w hn).mono ?_
  rintro e w1 ⟨rfl, rfl⟩
  go_wp2_with fail
  first | go_end0 | refine bodyPost_ret (results_none rfl _ _ _) rfl ?_
  exact ⟨rfl, rfl⟩
end Go.Proofs.YtkglgboncngpbaaGreatDoor
/- slices.Sort of two strings. -/
namespace Go.Proofs.YtkglgboncngpbaaGreatDoor
open Go.RowKit
theorem less_any (s t : ByteArray) (w : World) : Calls Tryz.prog 136 #[.string s, .string t] w fun e w' => e = .returned (.bool (Op.bytesLess s.toList t.toList)) ∧ w = w' := by
  go_enter Tryz.func136, Tryz.ntmps136
  go_wp2
  go_ret
  exact ⟨rfl, rfl⟩
theorem cell_fut {w : World} {a : Addr} {v : Value} (h : w.cell? a = some v) : ∀ x, (fut Later w x).cell? a = some v := fun x =>
  ((fut_ok Later.refl w x).cell (p := a) (World.block_lt_of_cell? _ _ h)).trans h
set_option maxRecDepth 100000 in
set_option maxHeartbeats 4000000 in
theorem insertion2 (q o c : Nat) (s0 s1 : ByteArray) (w : World) (h0 : w.cell? ⟨q, o, none⟩ = some (.string s0)) (h1 : w.cell? ⟨q, o + 1, none⟩ = some (.string s1)) (g0 : w.frozen? ⟨q, o, none⟩ = false) (g1 : w.frozen? ⟨q, o + 1, none⟩ = false) :
    Calls Tryz.prog 130 #[.slice (some ⟨q, o, none⟩) 2 c, .int .i64 0, .int .i64 2] w fun e w' => e = .returned (.tuple #[]) ∧ But q w w' ∧
      ((w'.cell? ⟨q, o, none⟩ = some (.string s0) ∧ w'.cell? ⟨q, o + 1, none⟩ = some (.string s1) ∧ Op.bytesLess s1.toList s0.toList = false) ∨ (w'.cell? ⟨q, o, none⟩ = some (.string s1) ∧ w'.cell? ⟨q, o + 1, none⟩ = some (.string s0) ∧ Op.bytesLess s1.toList s0.toList = true)) := by
  have HC0 := Lib.hid h0; have HC1 := Lib.hid h1; have HF0 := Lib.hid g0; have HF1 := Lib.hid g1
  clear h0 h1 g0 g1
  go_enter Tryz.func130, Tryz.ntmps130
  go_wp2_with fail
  refine wp_loop_rounds 2 ?_
  rw [rounds_succ]
  go_wp2_with fail
  refine wp_loop_rounds 2 ?_
  rw [rounds_succ]
  go_wp2_with fail
  refine wp_region_grow (by kernel_rfl) Later Later.refl (fun _ _ _ => Later.trans) [14] [([0, 1, 2, 3, 4, 5, 6, 7, 8, 9, 10, 11, 12], 13)] (by kernel_rfl) (by kernel_rfl) (by kernel_rfl) ?_
  simp only [List.map_cons, List.map_nil, pick, List.getD_cons_zero, List.getD_cons_succ]
  have hc0 := cell_fut (w := w.drew) HC0.out
  have hc1 := cell_fut (w := w.drew) HC1.out
  refine wpGrow_cons ?_
  repeat (go_big_quiet_step (fail))
  refine wpQuiet_nil ?_
  clear hc0 hc1
  go_wp2_with fail
  refine (less_any s1 s0 w.drew).mono ?_
  rintro e w1 ⟨rfl, rfl⟩
  generalize hbb : Op.bytesLess s1.toList s0.toList = bb
  have HBB := Lib.hid hbb; clear hbb
  go_wp2_with fail
  refine pieceEnd_normal ⟨Later.refl _, ?_⟩
  refine wpGrow_nil ?_
  repeat (go_big_quiet_step (fail))
  refine wpQuiet_nil ?_
  have HB : Hid (But q w w.drew) := Lib.hid (But.drewN w 1)
  cases bb
  · go_wp2_with fail
    rw [rounds_succ]
    go_wp2_with fail
    first | go_end0 | refine bodyPost_ret (results_none rfl _ _ _) rfl ?_
    exact ⟨rfl, HB.out, .inl ⟨HC0.out, HC1.out, HBB.out⟩⟩
  · go_wp2_with fail
    refine wp_region_flow (by kernel_rfl) (fun _ _ => True) ?_
    have hc0 : w.drew.drew.cell? ⟨q, o, none⟩ = some (.string s0) := HC0.out
    have hc1 : w.drew.drew.cell? ⟨q, o + 1, none⟩ = some (.string s1) := HC1.out
    have hf0 : w.drew.drew.frozen? ⟨q, o, none⟩ = false := HF0.out
    have hf1 : w.drew.drew.frozen? ⟨q, o + 1, none⟩ = false := HF1.out
    have HBX : Hid (But q w w.drew.drew) := Lib.hid (HB.out.trans (But.drewN w.drew 1))
    generalize w.drew.drew = y at hc0 hc1 hf0 hf1 HBX ⊢
    have HSW : Hid (((y.setCell ⟨q, o + 1, none⟩ (.string s0)).setCell ⟨q, o, none⟩ (.string s1)).cell? ⟨q, o, none⟩ = some (.string s1) ∧ ((y.setCell ⟨q, o + 1, none⟩ (.string s0)).setCell ⟨q, o, none⟩ (.string s1)).cell? ⟨q, o + 1, none⟩ = some (.string s0)) := Lib.hid (by
      have hn1 : (⟨q, o, none⟩ : Addr) ≠ ⟨q, o + 1, none⟩ := fun e => by injection e with e1 e2 e3; omega
      have hn2 : (⟨q, o + 1, none⟩ : Addr) ≠ ⟨q, o, none⟩ := fun e => hn1 e.symm
      exact ⟨World.cell?_setCell_same _ _ _ ((World.cell?_setCell_other _ _ _ _ hn2).trans hc0), (World.cell?_setCell_other _ _ _ _ hn1).trans (World.cell?_setCell_same _ _ _ hc1)⟩)
    refine flow_reads (F := fun _ _ => True) (fun _ => trivial) (by kernel_rfl) [0, 1, 2, 3, 4, 5, 6, 7, 8, 10, 11, 12] (fuel := 6) (by kernel_rfl) ?_
    simp only [List.map_cons, List.map_nil, pick, List.getD_cons_zero, List.getD_cons_succ]
    repeat (go_big_quiet_step (fail))
    refine wpQuiet_nil ?_
    refine flow_two (F := fun _ _ => True) (fun _ _ _ _ _ => trivial) (fun _ => trivial) 9 13 (by kernel_rfl) (by decide) (by decide) ?_ ?_ <;> simp only [pick, List.getD_cons_zero, List.getD_cons_succ]
    · go_wp2_with fail
      refine pieceEnd_normal ⟨trivial, ?_⟩
      refine flow_one (F := fun _ _ => True) (fun _ _ _ _ _ => trivial) (fun _ => trivial) 13 (by kernel_rfl) (by decide) ?_
      simp only [pick, List.getD_cons_zero, List.getD_cons_succ]
      go_wp2_with fail
      refine pieceEnd_normal ⟨trivial, ?_⟩
      refine flow_one (F := fun _ _ => True) (fun _ _ _ _ _ => trivial) (fun _ => trivial) 14 (by kernel_rfl) (by decide) ?_
      simp only [pick, List.getD_cons_zero, List.getD_cons_succ]
      go_wp2_with fail
      refine pieceEnd_normal ⟨trivial, ?_⟩
      refine flow_one (F := fun _ _ => True) (fun _ _ _ _ _ => trivial) (fun _ => trivial) 15 (by kernel_rfl) (by decide) ?_
      simp only [pick, List.getD_cons_zero, List.getD_cons_succ]
      go_wp2_with fail
      refine pieceEnd_normal ⟨trivial, ?_⟩
      refine flow_one (F := fun _ _ => True) (fun _ _ _ _ _ => trivial) (fun _ => trivial) 16 (by kernel_rfl) (by decide) ?_
      simp only [pick, List.getD_cons_zero, List.getD_cons_succ]
      go_wp2_with fail
      refine pieceEnd_normal ⟨trivial, ?_⟩
      refine flow_one (F := fun _ _ => True) (fun _ _ _ _ _ => trivial) (fun _ => trivial) 17 (by kernel_rfl) (by decide) ?_
      simp only [pick, List.getD_cons_zero, List.getD_cons_succ]
      go_wp2_with fail
      refine pieceEnd_normal ⟨trivial, ?_⟩
      refine flow_done (by kernel_rfl) ?_
      have HEND : Hid (But q w ((y.setCell ⟨q, o + 1, none⟩ (.string s0)).setCell ⟨q, o, none⟩ (.string s1)).drew ∧ ((((y.setCell ⟨q, o + 1, none⟩ (.string s0)).setCell ⟨q, o, none⟩ (.string s1)).drew.cell? ⟨q, o, none⟩ = some (.string s0) ∧ ((y.setCell ⟨q, o + 1, none⟩ (.string s0)).setCell ⟨q, o, none⟩ (.string s1)).drew.cell? ⟨q, o + 1, none⟩ = some (.string s1) ∧ Op.bytesLess s1.toList s0.toList = false) ∨ (((y.setCell ⟨q, o + 1, none⟩ (.string s0)).setCell ⟨q, o, none⟩ (.string s1)).drew.cell? ⟨q, o, none⟩ = some (.string s1) ∧ ((y.setCell ⟨q, o + 1, none⟩ (.string s0)).setCell ⟨q, o, none⟩ (.string s1)).drew.cell? ⟨q, o + 1, none⟩ = some (.string s0) ∧ Op.bytesLess s1.toList s0.toList = true))) := Lib.hid ⟨((HBX.out.trans (But.set y (o + 1) (.string s0))).trans (But.set _ o (.string s1))).trans (But.drewN _ 1), .inr ⟨HSW.out.1, HSW.out.2, HBB.out⟩⟩
      go_wp2_with fail
      rw [rounds_succ]
      go_wp2_with fail
      refine wp_region_grow (by kernel_rfl) Later Later.refl (fun _ _ _ => Later.trans) [14] [([0, 1, 2, 3, 4, 5, 6, 7, 8, 9, 10, 11, 12], 13)] (by kernel_rfl) (by kernel_rfl) (by kernel_rfl) ?_
      simp only [List.map_cons, List.map_nil, pick, List.getD_cons_zero, List.getD_cons_succ]
      refine wpGrow_cons ?_
      repeat (go_big_quiet_step (fail))
      refine wpQuiet_nil ?_
      go_wp2_with fail
      refine pieceEnd_normal ⟨Later.refl _, ?_⟩
      refine wpGrow_nil ?_
      repeat (go_big_quiet_step (fail))
      refine wpQuiet_nil ?_
      go_wp2_with fail
      rw [rounds_succ]
      go_wp2_with fail
      first | go_end0 | refine bodyPost_ret (results_none rfl _ _ _) rfl ?_
      exact ⟨rfl, HEND.out⟩
    · go_wp2_with fail
      refine pieceEnd_normal ⟨trivial, ?_⟩
      refine flow_one (F := fun _ _ => True) (fun _ _ _ _ _ => trivial) (fun _ => trivial) 9 (by kernel_rfl) (by decide) ?_
      simp only [pick, List.getD_cons_zero, List.getD_cons_succ]
      go_wp2_with fail
      refine pieceEnd_normal ⟨trivial, ?_⟩
      refine flow_one (F := fun _ _ => True) (fun _ _ _ _ _ => trivial) (fun _ => trivial) 14 (by kernel_rfl) (by decide) ?_
      simp only [pick, List.getD_cons_zero, List.getD_cons_succ]
      go_wp2_with fail
      refine pieceEnd_normal ⟨trivial, ?_⟩
      refine flow_one (F := fun _ _ => True) (fun _ _ _ _ _ => trivial) (fun _ => trivial) 15 (by kernel_rfl) (by decide) ?_
      simp only [pick, List.getD_cons_zero, List.getD_cons_succ]
      go_wp2_with fail
      refine pieceEnd_normal ⟨trivial, ?_⟩
      refine flow_one (F := fun _ _ => True) (fun _ _ _ _ _ => trivial) (fun _ => trivial) 16 (by kernel_rfl) (by decide) ?_
      simp only [pick, List.getD_cons_zero, List.getD_cons_succ]
      go_wp2_with fail
      refine pieceEnd_normal ⟨trivial, ?_⟩
      refine flow_one (F := fun _ _ => True) (fun _ _ _ _ _ => trivial) (fun _ => trivial) 17 (by kernel_rfl) (by decide) ?_
      simp only [pick, List.getD_cons_zero, List.getD_cons_succ]
      go_wp2_with fail
      refine pieceEnd_normal ⟨trivial, ?_⟩
      refine flow_done (by kernel_rfl) ?_
      have HEND : Hid (But q w ((y.setCell ⟨q, o + 1, none⟩ (.string s0)).setCell ⟨q, o, none⟩ (.string s1)).drew ∧ ((((y.setCell ⟨q, o + 1, none⟩ (.string s0)).setCell ⟨q, o, none⟩ (.string s1)).drew.cell? ⟨q, o, none⟩ = some (.string s0) ∧ ((y.setCell ⟨q, o + 1, none⟩ (.string s0)).setCell ⟨q, o, none⟩ (.string s1)).drew.cell? ⟨q, o + 1, none⟩ = some (.string s1) ∧ Op.bytesLess s1.toList s0.toList = false) ∨ (((y.setCell ⟨q, o + 1, none⟩ (.string s0)).setCell ⟨q, o, none⟩ (.string s1)).drew.cell? ⟨q, o, none⟩ = some (.string s1) ∧ ((y.setCell ⟨q, o + 1, none⟩ (.string s0)).setCell ⟨q, o, none⟩ (.string s1)).drew.cell? ⟨q, o + 1, none⟩ = some (.string s0) ∧ Op.bytesLess s1.toList s0.toList = true))) := Lib.hid ⟨((HBX.out.trans (But.set y (o + 1) (.string s0))).trans (But.set _ o (.string s1))).trans (But.drewN _ 1), .inr ⟨HSW.out.1, HSW.out.2, HBB.out⟩⟩
      go_wp2_with fail
      rw [rounds_succ]
      go_wp2_with fail
      refine wp_region_grow (by kernel_rfl) Later Later.refl (fun _ _ _ => Later.trans) [14] [([0, 1, 2, 3, 4, 5, 6, 7, 8, 9, 10, 11, 12], 13)] (by kernel_rfl) (by kernel_rfl) (by kernel_rfl) ?_
      simp only [List.map_cons, List.map_nil, pick, List.getD_cons_zero, List.getD_cons_succ]
      refine wpGrow_cons ?_
      repeat (go_big_quiet_step (fail))
      refine wpQuiet_nil ?_
      go_wp2_with fail
      refine pieceEnd_normal ⟨Later.refl _, ?_⟩
      refine wpGrow_nil ?_
      repeat (go_big_quiet_step (fail))
      refine wpQuiet_nil ?_
      go_wp2_with fail
      rw [rounds_succ]
      go_wp2_with fail
      first | go_end0 | refine bodyPost_ret (results_none rfl _ _ _) rfl ?_
      exact ⟨rfl, HEND.out⟩
/-- The slice of two strings, one order or the other. -/
def Two2 (q o : Nat) (s0 s1 : ByteArray) (w : World) (e : Ending) (w' : World) : Prop := e = .returned (.tuple #[]) ∧ But q w w' ∧
      ((w'.cell? ⟨q, o, none⟩ = some (.string s0) ∧ w'.cell? ⟨q, o + 1, none⟩ = some (.string s1) ∧ Op.bytesLess s1.toList s0.toList = false) ∨ (w'.cell? ⟨q, o, none⟩ = some (.string s1) ∧ w'.cell? ⟨q, o + 1, none⟩ = some (.string s0) ∧ Op.bytesLess s1.toList s0.toList = true))
set_option maxRecDepth 100000 in
set_option maxHeartbeats 4000000 in
theorem pdq2 (q o c : Nat) (s0 s1 : ByteArray) (x : Int) (w : World) (h0 : w.cell? ⟨q, o, none⟩ = some (.string s0)) (h1 : w.cell? ⟨q, o + 1, none⟩ = some (.string s1)) (g0 : w.frozen? ⟨q, o, none⟩ = false) (g1 : w.frozen? ⟨q, o + 1, none⟩ = false) :
    Calls Tryz.prog 123 #[.slice (some ⟨q, o, none⟩) 2 c, .int .i64 0, .int .i64 2, .int .i64 x] w (Two2 q o s0 s1 w) := by
  have HI := Lib.hid (insertion2 q o c s0 s1 w h0 h1 g0 g1)
  clear h0 h1 g0 g1
  go_enter Tryz.func123, Tryz.ntmps123
  go_wp2_with fail
  refine wp_loop_rounds 1 ?_
  rw [rounds_succ]
  go_wp2_with fail
  refine HI.out.mono ?_
  rintro e w1 ⟨rfl, hb, ho⟩
  have HO := Lib.hid ho; have HB := Lib.hid hb; clear ho hb HI
  go_wp2_with fail
  first | go_end0 | refine bodyPost_ret (results_none rfl _ _ _) rfl ?_
  exact ⟨rfl, HB.out, HO.out⟩
set_option maxRecDepth 100000 in
set_option maxHeartbeats 4000000 in
theorem len2 (w : World) : Calls Tryz.prog 124 #[.int .u64 2] w fun e w' => (∃ x, e = .returned (.int .i64 x)) ∧ w = w' := by
  go_enter Tryz.func124, Tryz.ntmps124
  go_wp2
  go_ret
  exact ⟨⟨_, rfl⟩, rfl⟩
set_option maxRecDepth 100000 in
set_option maxHeartbeats 4000000 in
theorem sort2 (q o c : Nat) (s0 s1 : ByteArray) (w : World) (h0 : w.cell? ⟨q, o, none⟩ = some (.string s0)) (h1 : w.cell? ⟨q, o + 1, none⟩ = some (.string s1)) (g0 : w.frozen? ⟨q, o, none⟩ = false) (g1 : w.frozen? ⟨q, o + 1, none⟩ = false) :
    Calls Tryz.prog 116 #[.slice (some ⟨q, o, none⟩) 2 c] w (Two2 q o s0 s1 w) := by
  have HI := Lib.hid (fun x => pdq2 q o c s0 s1 x w h0 h1 g0 g1)
  clear h0 h1 g0 g1
  go_enter Tryz.func116, Tryz.ntmps116
  go_wp2_with fail
  refine (len2 w).mono ?_
  rintro e w1 ⟨⟨x, rfl⟩, rfl⟩
  go_wp2_with fail
  refine (HI.out x).mono ?_
  rintro e w1 ⟨rfl, hb, ho⟩
  have HO := Lib.hid ho; have HB := Lib.hid hb; clear ho hb HI
  go_wp2_with fail
  first | go_end0 | refine bodyPost_ret (results_none rfl _ _ _) rfl ?_
  exact ⟨rfl, HB.out, HO.out⟩
end Go.Proofs.YtkglgboncngpbaaGreatDoor
/- Reading an array's slot. -/
namespace Go.Proofs.YtkglgboncngpbaaGreatDoor
open Go.RowKit
theorem run_idx (cs : Array Value) (i : Nat) (hi : i < 200) (x : Value) (hx : cs[i]? = some x) (w : World) : (Instr.index 126 (.agg cs) (.int .i64 (i : Int))).run Tryz.prog w = .ok x w := by
  have h1 : (0 : Int) ≤ (i : Int) ∧ (i : Int) < ((200 : Nat) : Int) := by omega
  have hsz : ∀ w, (sizeOf 125).run Tryz.prog w = .ok 1 w := fun w => by kernel_rfl
  have hag : ∀ w, (isAgg 125).run Tryz.prog w = .ok false w := fun w => by kernel_rfl
  have hpt : ∀ w, (part 125 cs i).run Tryz.prog w = .ok x w := fun w => by
    unfold part
    simp [hx, hag]
  simp [Instr.index, asIntOf, run_underlying Tryz.underlying126, h1, hsz, hpt, Result.andThen]
  intro h
  omega
end Go.Proofs.YtkglgboncngpbaaGreatDoor
/- The walk of chain.known's byNumber. -/
namespace Go.Proofs.YtkglgboncngpbaaGreatDoor
open Go.RowKit
/-- The digests with number n of those that have come, in the order in which they came. -/
def came (l : List Stm) (seen : Array Nat) (n : Nat) : List ByteArray := (seen.toList.filter fun j => decide ((l.getD j noStm).number = n)).map fun j => (l.getD j noStm).dig
theorem came_push (l : List Stm) (seen : Array Nat) (j n : Nat) : came l (seen.push j) n = if (l.getD j noStm).number = n then came l seen n ++ [(l.getD j noStm).dig] else came l seen n := by
  unfold came
  rw [Array.toList_push, List.filter_append, List.map_append]
  by_cases h : (l.getD j noStm).number = (n : Int)
  · rw [if_pos h, show List.filter (fun j => decide ((l.getD j noStm).number = (n : Int))) [j] = [j] from by rw [List.filter_cons, if_pos (decide_eq_true h)]; rfl]
    rfl
  · rw [if_neg h, show List.filter (fun j => decide ((l.getD j noStm).number = (n : Int))) [j] = [] from by rw [List.filter_cons, if_neg (by simpa using h)]; rfl]
    rw [List.map_nil, List.append_nil]
theorem zero200 : Tryz.zeroCells126 = ((List.range 200).map fun _ => Value.slice none 0 0).toArray := by kernel_rfl
theorem slots_new (w : World) (o : Obj) : Slots ((w.alloc o).alloc (.cells Tryz.zeroCells126 126)) (w.heap.size + 1) (fun _ => .slice none 0 0) (fun _ => []) := by
  refine ⟨?_, fun n _ => World.ownsRow_nil _ _ _ _, fun n m _ _ _ k h => by cases h⟩
  have h := heap_alloc_new (w.alloc o) (.cells Tryz.zeroCells126 126)
  rw [show (w.alloc o).heap.size = w.heap.size + 1 by simp, zero200] at h
  rw [zero200]
  exact h
theorem str_info : (Tryz.prog.info? 9).map (fun i => (i.zero, i.size, i.bytes)) = some (some (.string ⟨#[]⟩), 1, 16) := by kernel_rfl
theorem own_notIter {w : World} {B : Nat} {e : TypeId} {sz : Nat} {v : Value} {n : Nat} {xs : List Value} (h : w.ownsRow B e sz v n xs) {r b q : Nat} {seen : Array Nat} (hr : IterAt w r b q seen) : v.ownBlock ≠ some r := by
  intro e1
  rcases h.2 with ⟨hn, _⟩ | ⟨a, cap, cur, rfl, ha, hgg, rest⟩
  · subst hn; cases e1
  have e2 : a = r := by injection e1
  subst e2
  unfold IterAt at hr
  rw [hr] at hgg
  cases hgg
theorem came_fun (l : List Stm) (seen : Array Nat) (j N : Nat) (h : (l.getD j noStm).number = (N : Int)) : came l (seen.push j) = upd (came l seen) N (came l seen N ++ [(l.getD j noStm).dig]) := by
  funext n
  rw [came_push, h]
  unfold upd
  by_cases e : n = N
  · subst e; rw [if_pos rfl, if_pos rfl]
  · rw [if_neg (fun e2 => e (by omega)), if_neg e]
theorem came_len (l : List Stm) (seen : Array Nat) (n : Nat) : (came l seen n).length ≤ seen.size := by
  unfold came
  rw [List.length_map]
  exact Nat.le_trans (List.length_filter_le _ _) (by simp)
/-- Two strings stand in their order. -/
def Srt (l : List ByteArray) : Prop := ∀ x y, l = [x, y] → Op.bytesLess x.toList y.toList = true ∨ Op.bytesLess y.toList x.toList = false
theorem Srt.pair {a b : ByteArray} (h : Op.bytesLess a.toList b.toList = true ∨ Op.bytesLess b.toList a.toList = false) : Srt [a, b] := fun x y e => by
  injection e with e1 e2
  injection e2 with e2 _
  subst e1; subst e2
  exact h
/-- The same strings, in order. -/
def Prm (a b : List ByteArray) : Prop := a.Perm b ∧ Srt a
theorem Prm.length_eq {a b : List ByteArray} (h : Prm a b) : a.length = b.length := h.1.length_eq
theorem Prm.subset {a b : List ByteArray} (h : Prm a b) : a ⊆ b := h.1.subset
theorem Prm.trans {a b c : List ByteArray} (h : Prm a b) (k : b.Perm c) : Prm a c := ⟨h.1.trans k, h.2⟩
theorem Prm.short {a : List ByteArray} (h : a.length ≤ 1) : Prm a a := ⟨List.Perm.refl _, fun x y e => by rw [e] at h; simp at h⟩
/-- In the midst of the sorting: the slots below i are sorted, the others are as they were filled. -/
structure LInv (w : World) (g : Nat) (v : Nat → Value) (f f2 : Nat → List ByteArray) (i : Nat) : Prop where
  todo : ∀ n, i ≤ n → n < 200 → TOwn w (g + 1) (v n) (f n)
  done : ∀ n, n < i → n < 200 → ∃ A k c, v n = .slice A k c ∧ Row w A k c 1 (strsV (f2 n)) ∧ Prm (f2 n) (f n)
theorem two_of {α : Type} {z : List α} (h1 : ¬ z.length ≤ 1) (h2 : z.length ≤ 2) : ∃ a b, z = [a, b] := by
  rcases z with _ | ⟨a, _ | ⟨b, _ | ⟨c, r⟩⟩⟩
  · simp at h1
  · simp at h1
  · exact ⟨a, b, rfl⟩
  · simp at h2
theorem row_two {w : World} {q c : Nat} {x y : ByteArray} (hc : 2 ≤ c) (h0 : w.cell? ⟨q, 0, none⟩ = some (.string x)) (h1 : w.cell? ⟨q, 0 + 1, none⟩ = some (.string y)) : Row w (some ⟨q, 0, none⟩) 2 c 1 (strsV [x, y]) := by
  refine ⟨rfl, hc, fun e => (by cases e), fun ad e _ => ?_⟩
  injection e with e; subst e
  refine ⟨q, 0, rfl, fun i hi => ?_⟩
  rcases i with _ | _ | i
  · exact h0
  · exact h1
  · omega
theorem came_perm (l : List Stm) (seen : Array Nat) (n : Nat) (h : seen.toList.Perm (List.range l.length)) : (came l seen n).Perm ((l.filter fun s => decide (s.number = (n : Int))).map (·.dig)) := by
  unfold came
  refine ((h.filter _).map _).trans (List.Perm.of_eq ?_)
  have e : l = (List.range l.length).map fun j => l.getD j noStm := by
    apply List.ext_getElem?
    intro i
    rw [List.getElem?_map]
    by_cases hi : i < l.length
    · rw [List.getElem?_range hi, List.getElem?_eq_getElem hi]
      simp [hi]
    · rw [List.getElem?_eq_none (by omega), List.getElem?_eq_none (by rw [List.length_range]; omega)]
      rfl
  conv => rhs; rw [e]
  rw [List.filter_map, List.map_map]
  rfl
set_option maxRecDepth 100000 in
set_option maxHeartbeats 4000000 in
theorem byNumber_any (b : Nat) (l : List Stm) (w : World) (hm : MapAt w b (l.map pairS)) (hln : l.length ≤ 1000) (h2 : ∀ n : Nat, (l.filter fun s => decide (s.number = (n : Int))).length ≤ 2) (hg : ∀ s ∈ l, 0 ≤ s.number ∧ s.number < 200) :
    Calls Tryz.prog 99 #[.map (some b)] w fun e w' => ∃ (v : Nat → Value) (f : Nat → List ByteArray), e = .returned (.agg ((List.range 200).map v).toArray) ∧ Below w.heap.size w w' ∧
      ∀ n, n < 200 → ∃ A k c, v n = .slice A k c ∧ Row w' A k c 1 (strsV (f n)) ∧ Prm (f n) ((l.filter fun s => decide (s.number = (n : Int))).map (·.dig)) ∧ ∀ ad, A = some ad → w.heap.size ≤ ad.block := by
  obtain ⟨W2, hW⟩ : ∃ W, W = (w.alloc (.cells Tryz.zeroCells126 126)).alloc (.cells Tryz.zeroCells126 126) := ⟨_, rfl⟩
  have HB : Hid (Below w.heap.size w W2) := Lib.hid (by rw [hW]; exact (one_new w _).trans ((one_new _ _).mono (by simp)))
  have HM : Hid (MapAt W2 b (l.map pairS)) := Lib.hid (hm.later HB.out)
  have HS : Hid (Slots W2 (w.heap.size + 1) (fun _ => .slice none 0 0) (came l #[])) := Lib.hid (by rw [hW]; exact slots_new w _)
  have HZ : Hid (W2.heap.size = w.heap.size + 1 + 1) := Lib.hid (by rw [hW]; simp)
  have HXX : Hid (W2.heap[w.heap.size]? = some (.cells Tryz.zeroCells126 126 (0, 0))) := Lib.hid (by rw [hW]; exact (Below.heap_alloc _ _ _ (by simp)).trans (heap_alloc_new _ _))
  have HBL : Hid (b < w.heap.size) := Lib.hid hm.lt
  clear hm
  have HW := Lib.hid hW; clear hW
  go_enter Tryz.func99, Tryz.ntmps99
  go_wp2_with fail
  rw [← HW.out]
  clear HW
  have hrg := run_over (P := Tryz.prog) HM.out Tryz.underlying123
  rw [hrg]
  clear hrg
  have HIT : Hid (IterAt (W2.alloc (.mapIter (some b) (l.map pairS).length #[] (l.map pairS).length)) (w.heap.size + 1 + 1) b (l.map pairS).length #[]) := Lib.hid (by
    have h := heap_alloc_new W2 (.mapIter (some b) (l.map pairS).length #[] (l.map pairS).length)
    rw [HZ.out] at h
    exact h)
  replace HM := Lib.hid (HM.out.later (one_new W2 (.mapIter (some b) (l.map pairS).length #[] (l.map pairS).length)))
  replace HS := Lib.hid (HS.out.later (one_new W2 (.mapIter (some b) (l.map pairS).length #[] (l.map pairS).length)))
  have HX : Hid ((W2.alloc (.mapIter (some b) (l.map pairS).length #[] (l.map pairS).length)).heap[w.heap.size]? = some (.cells Tryz.zeroCells126 126 (0, 0))) := Lib.hid (((one_new W2 _).block _ (by rw [HZ.out]; omega)).trans HXX.out)
  replace HB := Lib.hid (HB.out.trans ((one_new W2 (.mapIter (some b) (l.map pairS).length #[] (l.map pairS).length)).mono HB.out.size))
  clear HXX
  have hz := HZ.out
  rw [hz]
  generalize W2.alloc (.mapIter (some b) (l.map pairS).length #[] (l.map pairS).length) = W3 at HIT HM HS HX HB ⊢
  clear hz HZ W2
  go_wp2_with fail
  go_loopw [4] (fun _ wr => ∃ (seen : Array Nat) (v : Nat → Value), Hid (IterAt wr (w.heap.size + 1 + 1) b (l.map pairS).length seen ∧ MapAt wr b (l.map pairS) ∧ Slots wr (w.heap.size + 1) v (came l seen) ∧ Below w.heap.size w wr ∧ wr.heap[w.heap.size]? = some (.cells Tryz.zeroCells126 126 (0, 0)) ∧
      seen.size + (leftOf (entsFrom (l.map pairS) 0).toArray seen).size ≤ l.length ∧ seen.toList.Nodup ∧ ∀ q ∈ seen.toList, q < l.length)) (fun _ wr => leftW wr (w.heap.size + 1 + 1) b)
  case atStart => exact ⟨#[], _, Lib.hid ⟨HIT.out, HM.out, HS.out, HB.out, HX.out, by
    have h := Array.size_filter_le (p := fun e : MapEntry => !(#[] : Array Nat).contains e.born) (xs := (entsFrom (l.map pairS) 0).toArray)
    unfold leftOf
    have h2 : (entsFrom (l.map pairS) 0).toArray.size = l.length := by rw [List.size_toArray, entsFrom_len, List.length_map]
    have h3 : (Array.filter (fun e => !(#[] : Array Nat).contains e.born) (entsFrom (l.map pairS) 0).toArray).size ≤ l.length := h2 ▸ h
    show 0 + _ ≤ _
    rw [Nat.zero_add]
    exact h3, List.nodup_nil, fun q hq => by cases hq⟩⟩
  case round =>
    clear HIT HM HS HB HX
    obtain ⟨seen, v, HQ⟩ := hrel
    rcases run_nextPair (P := Tryz.prog) HQ.out.1 HQ.out.2.1 0 with ⟨hall, hnx⟩ | ⟨j, k, val, w1, hj, hns, hnx, hit, hbut, hless⟩
    · have hperm : seen.toList.Perm (List.range l.length) := (List.perm_ext_iff_of_nodup HQ.out.2.2.2.2.2.2.1 List.nodup_range).2 fun q => by
        rw [List.mem_range]
        refine ⟨fun h => HQ.out.2.2.2.2.2.2.2 q h, fun h => ?_⟩
        have h3 := hall q (by rw [List.length_map]; exact h)
        rw [Array.contains_iff_mem] at h3
        simpa using h3
      have HPE : Hid (∀ n : Nat, (came l seen n).Perm ((l.filter fun s => decide (s.number = (n : Int))).map (·.dig))) := Lib.hid fun n => came_perm l seen n hperm
      have HL2 : Hid (∀ n, (came l seen n).length ≤ 2) := Lib.hid fun n => by rw [(HPE.out n).length_eq, List.length_map]; exact h2 n
      have HS := Lib.hid HQ.out.2.2.1; have HB := Lib.hid HQ.out.2.2.2.1; have HX := Lib.hid HQ.out.2.2.2.2.1
      clear hall HQ hperm
      obtain ⟨cs, hcs⟩ : ∃ cs, cs = ((List.range 200).map v).toArray := ⟨_, rfl⟩
      have HH : Hid (wr.heap[w.heap.size + 1]? = some (.cells cs 126 (0, 0))) := Lib.hid (by rw [hcs]; exact HS.out.here)
      have HSZ : Hid ((Tryz.prog.info? 126).map (·.size) = some cs.size) := Lib.hid (by rw [hcs, List.size_toArray, List.length_map, List.length_range]; kernel_rfl)
      have HC1 : Hid (cs.all (·.oneCell') = true) := Lib.hid (by
        rw [hcs, List.all_toArray, List.all_eq_true]
        intro x hx
        obtain ⟨n, hn, rfl⟩ := List.mem_map.1 hx
        obtain ⟨A, c, e, _⟩ := Row.of_own (HS.out.own n (by simpa using hn))
        rw [e]; rfl)
      have HZC : Hid (Tryz.zeroCells126.size = cs.size) := Lib.hid (by rw [hcs, zero200, List.size_toArray, List.size_toArray, List.length_map, List.length_map])
      have HCS : Hid (∀ i, i < 200 → cs[i]? = some (v i)) := Lib.hid fun i hi => by rw [hcs]; exact slots_cell v i hi
      have HAP := Lib.hid HS.out.apart
      have HLO : Hid (∀ n, n < 200 → ∀ k, (v n).ownBlock = some k → w.heap.size + 1 + 1 ≤ k) := Lib.hid fun n hn k hk => (World.ownsRow.lt (HS.out.own n hn) k hk).1
      have HIN : Hid (LInv wr (w.heap.size + 1) v (came l seen) (fun _ => []) 0) := Lib.hid ⟨fun n _ hn => HS.out.own n hn, fun n h => absurd h (Nat.not_lt_zero n)⟩
      have HCV := Lib.hid hcs; clear hcs HS
      go_wp2_with (refine wpList_load_row rfl 126 (.tmp 3) rfl (w.heap.size + 1) rfl 126 cs (0, 0) _ HH.out Tryz.underlying126 rfl HSZ.out ?_)
      clear hnx
      go_loopw [26] (fun i wq => ∃ (j : Nat) (f : Nat → List ByteArray), j ≤ 200 ∧ i = .int .i64 j ∧ Hid (LInv wq (w.heap.size + 1) v (came l seen) f j ∧ wq.heap[w.heap.size + 1]? = some (.cells cs 126 (0, 0)) ∧ Below w.heap.size w wq ∧ wq.heap[w.heap.size]? = some (.cells Tryz.zeroCells126 126 (0, 0)))) (fun i _ => 200 - (intOf i).toNat)
      case atStart => exact ⟨0, fun _ => [], by omega, rfl, Lib.hid ⟨HIN.out, HH.out, HB.out, HX.out⟩⟩
      case round =>
        clear HIN HH HB HX
        obtain ⟨j, f, hj, rfl, HQ⟩ := hrel
        by_cases hlt : j < 200
        · obtain ⟨A, c, hv, hrow⟩ := Row.of_own (HQ.out.1.todo j (Nat.le_refl _) hlt)
          have hidx := run_idx cs j hlt (.slice A (came l seen j).length c) (by rw [HCS.out j hlt, hv])
          have HOJ := Lib.hid (HQ.out.1.todo j (Nat.le_refl _) hlt)
          rw [hv] at HOJ
          have hl2 := HL2.out j
          have HV := Lib.hid hv; have HRJ := Lib.hid hrow; clear hv hrow
          by_cases hl1 : (came l seen j).length ≤ 1
          · go_wp2_with fail
            refine (sort1 A _ c _ hl1).mono ?_
            rintro e w4 ⟨rfl, rfl⟩
            clear hidx
            go_wp2_with fail
            refine ⟨⟨j + 1, upd f j (came l seen j), by omega, by go_num, Lib.hid ⟨⟨fun n hn hn2 => HQ.out.1.todo n (by omega) hn2, fun n hn hn2 => ?_⟩, HQ.out.2⟩⟩, by simp [intOf]; omega⟩
            by_cases e : n = j
            · subst e
              rw [upd_at]
              exact ⟨A, _, c, HV.out, HRJ.out, Prm.short hl1⟩
            · rw [upd_ne _ _ e]
              exact HQ.out.1.done n (by omega) hn2
          · obtain ⟨s0, s1, hss⟩ : ∃ s0 s1, came l seen j = [s0, s1] := two_of hl1 hl2
            have hlen : (came l seen j).length = 2 := by rw [hss]; rfl
            obtain ⟨q, hA, hqg, cur, hcur⟩ : ∃ q, A = some ⟨q, 0, none⟩ ∧ w.heap.size + 1 + 1 ≤ q ∧ ∃ cur, wr.heap[q]? = some (.cells cur 9 (0, 0)) := by
              rcases HOJ.out.2 with ⟨_, hn⟩ | ⟨g, cap, cur, hs, hge, hgg, _⟩
              · rw [hlen] at hn; cases hn
              · injection hs with h1 _ _; exact ⟨g, h1, hge, cur, hgg⟩
            subst hA
            have HRJ2 := HRJ
            rw [hss] at HRJ2
            have HCAP : Hid (2 ≤ c) := Lib.hid HRJ2.out.cap
            have HSO := Lib.hid (sort2 q 0 c s0 s1 wr (HRJ2.out.cell 0 (Nat.zero_lt_succ 1)) (HRJ2.out.cell 1 (Nat.lt_succ_self 1)) (frozen_of_row _ _ _ _ _ hcur) (frozen_of_row _ _ _ _ _ hcur))
            have HSS := Lib.hid hss
            rw [hlen] at hidx HV
            clear hss hlen hl1 hl2 hcur HRJ HRJ2 HOJ cur
            go_wp2_with fail
            refine HSO.out.mono ?_
            rintro e w4 ⟨rfl, hbt, hor⟩
            have HBT := Lib.hid hbt; have HOR := Lib.hid hor
            clear hidx hbt hor
            go_wp2_with fail
            have hoth : ∀ n, n < 200 → n ≠ j → ∀ k, (v n).ownBlock = some k → k ≠ q := fun n hn hne k hk e => HAP.out n j hn hlt hne k hk (by rw [HV.out, e]; rfl)
            have hbl := HBT.out
            have hrow : ∃ f2, Row w4 (some ⟨q, 0, none⟩) 2 c 1 (strsV f2) ∧ Prm f2 (came l seen j) := by
              rw [HSS.out]
              rcases HOR.out with ⟨h0, h1, h2⟩ | ⟨h0, h1, h2⟩
              · exact ⟨[s0, s1], row_two HCAP.out h0 h1, List.Perm.refl _, Srt.pair (.inr h2)⟩
              · exact ⟨[s1, s0], row_two HCAP.out h0 h1, List.Perm.swap _ _ _, Srt.pair (.inl h2)⟩
            obtain ⟨f2, hr2, hp2⟩ := hrow
            refine ⟨⟨j + 1, upd f j f2, by omega, by go_num, Lib.hid ⟨⟨fun n hn hn2 => own_keep1 (HQ.out.1.todo n (by omega) hn2) fun k hk => hbl.block k (World.ownsRow.lt (HQ.out.1.todo n (by omega) hn2) k hk).2 (hoth n hn2 (by omega) k hk), fun n hn hn2 => ?_⟩, (hbl.block _ (by have h := (Array.getElem?_eq_some_iff.1 HQ.out.2.1).1; exact h) (by omega)).trans HQ.out.2.1, HQ.out.2.2.1.trans (hbl.below (by omega) HQ.out.2.2.1.size), (hbl.block _ (by have h := (Array.getElem?_eq_some_iff.1 HQ.out.2.2.2).1; exact h) (by omega)).trans HQ.out.2.2.2⟩⟩, by simp [intOf]; omega⟩
            by_cases e : n = j
            · subst e
              rw [upd_at]
              exact ⟨_, _, c, HV.out, hr2, hp2⟩
            · rw [upd_ne _ _ e]
              obtain ⟨A', k', c', e', hr', hp'⟩ := HQ.out.1.done n (by omega) hn2
              refine ⟨A', k', c', e', hr'.keep fun ad hA _ hl => hbl.block _ hl (hoth n hn2 e _ ?_), hp'⟩
              rw [e', hA]; rfl
        · have hj2 : j = 200 := by omega
          subst hj2
          go_wp2_with (first | (refine wpList_load_row rfl 126 (.tmp 3) rfl (w.heap.size + 1) rfl 126 cs (0, 0) _ HQ.out.2.1 Tryz.underlying126 rfl HSZ.out ?_) | (refine wpList_store_row rfl 126 (.tmp 2) (.tmp 32) rfl w.heap.size cs rfl rfl 126 _ HQ.out.2.2.2 HSZ.out HZC.out HC1.out ?_))
          refine bodyPost_ret (v := .agg cs) (results_cell_row rfl _ _ w.heap.size 126 cs (0, 0) _ rfl (setRow_heap _ _ _ _ _ _ HQ.out.2.2.2) Tryz.underlying126 rfl HSZ.out) rfl ?_
          refine ⟨v, f, by rw [HCV.out], below_setRow HQ.out.2.2.1 (Nat.le_refl _) _, fun n hn => ?_⟩
          obtain ⟨A', k', c', e', hr', hp'⟩ := HQ.out.1.done n hn hn
          refine ⟨A', k', c', e', hr'.keep fun ad hA _ _ => setRow_other _ _ _ _ ?_, hp'.trans (HPE.out n), fun ad hA => ?_⟩
          · have h := HLO.out n hn ad.block (by rw [e', hA]; rfl)
            omega
          · have h := HLO.out n hn ad.block (by rw [e', hA]; rfl)
            omega
    · have HLE : Hid (leftW w1 (w.heap.size + 1 + 1) b < leftW wr (w.heap.size + 1 + 1) b) := Lib.hid (by
        rw [leftW_eq hit (HQ.out.2.1.but hbut (by have := HBL.out; omega)), leftW_eq HQ.out.1 HQ.out.2.1]; exact hless)
      obtain ⟨s, hs, hps⟩ : ∃ s, l[j]? = some s ∧ pairS s = (k, val) := by
        rw [List.getElem?_map] at hj
        cases h : l[j]? with
        | none => rw [h] at hj; cases hj
        | some s => rw [h] at hj; exact ⟨s, rfl, by injection hj⟩
      have hgd : l.getD j noStm = s := by rw [List.getD_eq_getElem?_getD, hs]; rfl
      have hjl : j < l.length := (List.getElem?_eq_some_iff.1 hs).1
      have hnum := hg s (List.mem_of_getElem? hs)
      have hk : k = s.dig := (congrArg Prod.fst hps).symm
      have hv : val = stmV s none 0 0 none 0 0 := (congrArg Prod.snd hps).symm
      obtain ⟨N, hN⟩ : ∃ N : Nat, s.number = N := ⟨s.number.toNat, by omega⟩
      have hN2 : N < 200 := by omega
      have HCF : Hid (came l (seen.push j) = upd (came l seen) N (came l seen N ++ [s.dig])) := Lib.hid (by rw [came_fun l seen j N (by rw [hgd]; exact hN), hgd])
      have HM : Hid (MapAt w1 b (l.map pairS)) := Lib.hid (HQ.out.2.1.but hbut (by have := HBL.out; omega))
      have HIT : Hid (IterAt w1 (w.heap.size + 1 + 1) b (l.map pairS).length (seen.push j)) := Lib.hid hit
      have hen := run_pair (P := Tryz.prog) HIT.out HM.out hj
      have HB : Hid (Below w.heap.size w w1) := Lib.hid (HQ.out.2.2.2.1.trans (hbut.below (by omega) HQ.out.2.2.2.1.size))
      have HS : Hid (Slots w1 (w.heap.size + 1) v (came l seen)) := Lib.hid (HQ.out.2.2.1.keep2 (hbut.block _ HQ.out.2.2.1.lt (by omega)) fun q hq p hp => hbut.block p (World.ownsRow.lt (HQ.out.2.2.1.own q hq) p hp).2 (fun e => own_notIter (HQ.out.2.2.1.own q hq) HQ.out.1 (e ▸ hp)))
      have HX : Hid (w1.heap[w.heap.size]? = some (.cells Tryz.zeroCells126 126 (0, 0))) := Lib.hid ((hbut.block _ (by have h1 := HQ.out.2.2.1.lt; omega) (by omega)).trans HQ.out.2.2.2.2.1)
      have HSZ : Hid (seen.size ≤ 1000) := Lib.hid (by have h1 := HQ.out.2.2.2.2.2.1; omega)
      have HCO : Hid ((seen.push j).size + (leftOf (entsFrom (l.map pairS) 0).toArray (seen.push j)).size ≤ l.length ∧ (seen.push j).toList.Nodup ∧ ∀ q ∈ (seen.push j).toList, q < l.length) := Lib.hid (by
        refine ⟨by have h1 := HQ.out.2.2.2.2.2.1; rw [Array.size_push]; omega, ?_, ?_⟩
        · rw [Array.toList_push, List.nodup_append]
          refine ⟨HQ.out.2.2.2.2.2.2.1, by simp, fun x hx y hy e => ?_⟩
          have hy2 : y = j := by simpa using hy
          subst e; subst hy2
          have : seen.contains x = true := by rw [Array.contains_iff_mem]; simpa using hx
          rw [hns] at this; cases this
        · intro q hq
          rw [Array.toList_push, List.mem_append] at hq
          rcases hq with hq | hq
          · exact HQ.out.2.2.2.2.2.2.2 q hq
          · have : q = j := by simpa using hq
            omega)
      subst hk; subst hv
      clear hit hbut hless hns hj hs hps hgd hjl hnum HQ
      obtain ⟨a0, a1, a2, a3, a4, a5, a6, a7, a8, a9, a10, a11, a12⟩ := s
      simp only at hN HCF hen hnx
      subst hN
      unfold stmV at hen hnx
      simp only at hen hnx
      go_wp2_with fail
      clear hen hnx
      have HXS : Hid ((w1.alloc (.cells #[.int .i64 a0, .int .i64 (N : Int), .string a2, .int .i64 a3, .int .i64 a4, .int .i64 a5, .int .i64 a6, .int .i64 a7, .slice none 0 0, .slice none 0 0, .string a10, .int .i64 a11, .string a12] 27)).heap[w1.heap.size]? = some (.cells #[.int .i64 a0, .int .i64 (N : Int), .string a2, .int .i64 a3, .int .i64 a4, .int .i64 a5, .int .i64 a6, .int .i64 a7, .slice none 0 0, .slice none 0 0, .string a10, .int .i64 a11, .string a12] 27 (0, 0))) := Lib.hid (heap_alloc_new w1 (.cells #[.int .i64 a0, .int .i64 (N : Int), .string a2, .int .i64 a3, .int .i64 a4, .int .i64 a5, .int .i64 a6, .int .i64 a7, .slice none 0 0, .slice none 0 0, .string a10, .int .i64 a11, .string a12] 27))
      have HLT : Hid (w1.heap.size < (w1.alloc (.cells #[.int .i64 a0, .int .i64 (N : Int), .string a2, .int .i64 a3, .int .i64 a4, .int .i64 a5, .int .i64 a6, .int .i64 a7, .slice none 0 0, .slice none 0 0, .string a10, .int .i64 a11, .string a12] 27)).heap.size) := Lib.hid (by simp)
      have HSB : Hid (w.heap.size + 1 + 1 < w1.heap.size) := Lib.hid HIT.out.lt
      have HIT0 := HIT; have HM0 := HM
      replace HM := Lib.hid (HM.out.later (one_new w1 (.cells #[.int .i64 a0, .int .i64 (N : Int), .string a2, .int .i64 a3, .int .i64 a4, .int .i64 a5, .int .i64 a6, .int .i64 a7, .slice none 0 0, .slice none 0 0, .string a10, .int .i64 a11, .string a12] 27))); replace HIT := Lib.hid (HIT.out.later (one_new w1 (.cells #[.int .i64 a0, .int .i64 (N : Int), .string a2, .int .i64 a3, .int .i64 a4, .int .i64 a5, .int .i64 a6, .int .i64 a7, .slice none 0 0, .slice none 0 0, .string a10, .int .i64 a11, .string a12] 27))); replace HS := Lib.hid (HS.out.later (one_new w1 (.cells #[.int .i64 a0, .int .i64 (N : Int), .string a2, .int .i64 a3, .int .i64 a4, .int .i64 a5, .int .i64 a6, .int .i64 a7, .slice none 0 0, .slice none 0 0, .string a10, .int .i64 a11, .string a12] 27))); replace HX := Lib.hid (((one_new w1 (.cells #[.int .i64 a0, .int .i64 (N : Int), .string a2, .int .i64 a3, .int .i64 a4, .int .i64 a5, .int .i64 a6, .int .i64 a7, .slice none 0 0, .slice none 0 0, .string a10, .int .i64 a11, .string a12] 27)).block _ (by have h := HSB.out; omega)).trans HX.out)
      replace HB := Lib.hid (HB.out.trans ((one_new w1 (.cells #[.int .i64 a0, .int .i64 (N : Int), .string a2, .int .i64 a3, .int .i64 a4, .int .i64 a5, .int .i64 a6, .int .i64 a7, .slice none 0 0, .slice none 0 0, .string a10, .int .i64 a11, .string a12] 27)).mono HB.out.size))
      have HITW : Hid (IterAt w1 (w.heap.size + 1 + 1) b (l.map pairS).length (seen.push j)) := HIT0
      have HMW : Hid (MapAt w1 b (l.map pairS)) := HM0
      generalize w1.alloc (.cells #[.int .i64 a0, .int .i64 (N : Int), .string a2, .int .i64 a3, .int .i64 a4, .int .i64 a5, .int .i64 a6, .int .i64 a7, .slice none 0 0, .slice none 0 0, .string a10, .int .i64 a11, .string a12] 27) = y0 at HM HIT HS HX HB HXS HLT ⊢
      refine wp_region_flow (by kernel_rfl) (fun a b => b.heap[w1.heap.size]? = a.heap[w1.heap.size]?) ?_
      have hdr : y0.drew.heap = y0.heap := rfl
      replace HM := Lib.hid (HM.out.later (Later.drew y0)); replace HIT := Lib.hid (HIT.out.later (Later.drew y0)); replace HS := Lib.hid (HS.out.later (Later.drew y0)); replace HX : Hid (y0.drew.heap[w.heap.size]? = _) := HX; replace HB := Lib.hid HB.out.drew; replace HXS : Hid (y0.drew.heap[w1.heap.size]? = _) := HXS; replace HLT : Hid (w1.heap.size < y0.drew.heap.size) := HLT
      clear hdr
      generalize y0.drew = z0 at HM HIT HS HX HB HXS HLT ⊢
      obtain ⟨hf0, hf1, hf2, hf3, hf4, hf5, hf6, hf7, hf8, hf9, hf10, hf11, hf12⟩ := stm_futs (F := (fun a b => b.heap[w1.heap.size]? = a.heap[w1.heap.size]?)) (fun _ => rfl) (A := none) (n := 0) (c := 0) (B := none) (m := 0) (k := 0) (s := ⟨a0, (N : Int), a2, a3, a4, a5, a6, a7, a8, a9, a10, a11, a12⟩) (W := z0) (fun w' h => h) HXS.out
      refine flow_reads (F := (fun a b => b.heap[w1.heap.size]? = a.heap[w1.heap.size]?)) (fun _ => rfl) (by kernel_rfl) [0, 1, 2, 3, 4, 6] (fuel := 5) (by kernel_rfl) ?_
      simp only [List.map_cons, List.map_nil, pick, List.getD_cons_zero, List.getD_cons_succ]
      repeat (go_big_quiet_step (fail))
      refine wpQuiet_nil ?_
      clear hf0 hf1 hf2 hf3 hf4 hf5 hf6 hf7 hf8 hf9 hf10 hf11 hf12
      refine flow_two (F := (fun a b => b.heap[w1.heap.size]? = a.heap[w1.heap.size]?)) (fun _ _ _ h k => k.trans h) (fun _ => rfl) 5 7 (by kernel_rfl) (by decide) (by decide) ?_ ?_ <;> simp only [pick, List.getD_cons_zero, List.getD_cons_succ]
      · have hcv : z0.cell? ⟨w.heap.size + 1, N, none⟩ = some (v N) := HS.out.cell N hN2
        go_wp2_with fail
        clear hcv
        refine pieceEnd_normal ⟨rfl, ?_⟩
        refine flow_one (F := (fun a b => b.heap[w1.heap.size]? = a.heap[w1.heap.size]?)) (fun _ _ _ h k => k.trans h) (fun _ => rfl) 7 (by kernel_rfl) (by decide) ?_
        simp only [pick, List.getD_cons_zero, List.getD_cons_succ]
        go_wp2_with fail
        refine pieceEnd_normal ⟨(one_new z0 (.cells #[.string a12] 9)).block _ HLT.out, ?_⟩
        refine flow_one (F := (fun a b => b.heap[w1.heap.size]? = a.heap[w1.heap.size]?)) (fun _ _ _ h k => k.trans h) (fun _ => rfl) 8 (by kernel_rfl) (by decide) ?_
        simp only [pick, List.getD_cons_zero, List.getD_cons_succ]
        go_wp2_with (at_builtin; go_must (refine wpList_app_newK z0 rfl (.tmp 20) (.tmp 22) 125 9 rfl (w.heap.size + 1 + 1) Tryz.underlying125 str_info rfl (v N) _ _ (HS.out.own N hN2) rfl 1 #[.string a12] rfl (by simp [Value.oneCell']) rfl rfl (by have h1 := came_len l seen N; have h2 := HSZ.out; unfold maxLen; omega) (by have h1 := came_len l seen N; have h2 := HSZ.out; omega) (by have h1 := HS.out.lt; omega) ?_); intro x3 z3 ho hb hk1 hk2; obtain ⟨A3, c3, hv3, hr3⟩ := Row.of_own ho; subst hv3)
        have hs5 : z3.heap[w1.heap.size]? = z0.heap[w1.heap.size]? := hk1 _ HLT.out (own_block1 (HS.out.own N hN2) HXS.out (by decide))
        have hgz : z3.heap[w.heap.size + 1]? = z0.heap[w.heap.size + 1]? := hb.block _ (Nat.lt_succ_self _)
        have HIT3 : Hid (IterAt z3 (w.heap.size + 1 + 1) b (l.map pairS).length (seen.push j)) := Lib.hid ((hk1 _ HIT.out.lt (own_notIter (HS.out.own N hN2) HIT.out)).trans HIT.out)
        have HM3 : Hid (MapAt z3 b (l.map pairS)) := Lib.hid ((hb.block b (by have h := HBL.out; omega)).trans HM.out)
        have HX3 : Hid (z3.heap[w.heap.size]? = some (.cells Tryz.zeroCells126 126 (0, 0))) := Lib.hid ((hb.block _ (by omega)).trans HX.out)
        have HB3 : Hid (Below w.heap.size w z3) := Lib.hid (HB.out.trans (hb.mono (by omega)))
        have HS3 := Lib.hid (HS.out.put N hN2 hb hk1 (x := .slice A3 ((came l seen N).length + 1) c3) (l := came l seen N ++ [a12]) (by unfold TOwn; rw [strsV_app, List.length_append]; exact ho) hk2)
        have hfz : z3.frozen? ⟨w.heap.size + 1, N, none⟩ = false := frozen_of_row _ _ _ _ _ (hgz.trans HS.out.here)
        have hcz : z3.cell? ⟨w.heap.size + 1, N, none⟩ = some (v N) := by rw [cell_of_row _ _ _ _ _ _ (hgz.trans HS.out.here)]; exact slots_cell v N hN2
        have HGZ := Lib.hid hgz
        refine pieceEnd_normal ⟨hs5.trans ((one_new z0 (.cells #[.string a12] 9)).block _ HLT.out).symm, ?_⟩
        clear hs5 hb hk1 hk2 ho hr3 hgz
        refine flow_one (F := (fun a b => b.heap[w1.heap.size]? = a.heap[w1.heap.size]?)) (fun _ _ _ h k => k.trans h) (fun _ => rfl) 9 (by kernel_rfl) (by decide) ?_
        simp only [pick, List.getD_cons_zero, List.getD_cons_succ]
        go_wp2_with fail
        refine pieceEnd_normal ⟨rfl, ?_⟩
        refine flow_one (F := (fun a b => b.heap[w1.heap.size]? = a.heap[w1.heap.size]?)) (fun _ _ _ h k => k.trans h) (fun _ => rfl) 10 (by kernel_rfl) (by decide) ?_
        simp only [pick, List.getD_cons_zero, List.getD_cons_succ]
        go_wp2_with fail
        clear hfz hcz
        refine pieceEnd_normal ⟨Below.heap_setCell _ _ _ _ (by have h := HSB.out; show w1.heap.size ≠ w.heap.size + 1; omega), ?_⟩
        refine flow_done (by kernel_rfl) ?_
        have hb4 : Below (w.heap.size + 1) z3 (z3.setCell ⟨w.heap.size + 1, N, none⟩ (.slice A3 ((came l seen N).length + 1) c3)) := Below.setCell (p := ⟨w.heap.size + 1, N, none⟩) (Below.refl _ _) (Nat.le_refl _) _
        have HIT4 : Hid (IterAt (z3.setCell ⟨w.heap.size + 1, N, none⟩ (.slice A3 ((came l seen N).length + 1) c3)) (w.heap.size + 1 + 1) b (l.map pairS).length (seen.push j)) := Lib.hid ((Below.heap_setCell _ _ _ _ (by show w.heap.size + 1 + 1 ≠ w.heap.size + 1; omega)).trans HIT3.out)
        have HM4 : Hid (MapAt (z3.setCell ⟨w.heap.size + 1, N, none⟩ (.slice A3 ((came l seen N).length + 1) c3)) b (l.map pairS)) := Lib.hid ((hb4.block b (by have h := HBL.out; omega)).trans HM3.out)
        have HX4 : Hid ((z3.setCell ⟨w.heap.size + 1, N, none⟩ (.slice A3 ((came l seen N).length + 1) c3)).heap[w.heap.size]? = some (.cells Tryz.zeroCells126 126 (0, 0))) := Lib.hid ((hb4.block _ (by omega)).trans HX3.out)
        have HB4 := Lib.hid (HB3.out.trans (hb4.mono (by omega)))
        have HLE4 : Hid (leftW (z3.setCell ⟨w.heap.size + 1, N, none⟩ (.slice A3 ((came l seen N).length + 1) c3)) (w.heap.size + 1 + 1) b < leftW wr (w.heap.size + 1 + 1) b) := Lib.hid (by
          rw [leftW_eq HIT4.out HM4.out, ← leftW_eq HITW.out HMW.out]; exact HLE.out)
        clear hb4
        go_wp2_with fail
        refine ⟨⟨seen.push j, upd v N (.slice A3 ((came l seen N).length + 1) c3), Lib.hid ⟨HIT4.out, HM4.out, by rw [HCF.out]; exact HS3.out, HB4.out, HX4.out, HCO.out⟩⟩, HLE4.out⟩
      · go_wp2_with fail
        refine pieceEnd_normal ⟨(one_new z0 (.cells #[.string a12] 9)).block _ HLT.out, ?_⟩
        refine flow_one (F := (fun a b => b.heap[w1.heap.size]? = a.heap[w1.heap.size]?)) (fun _ _ _ h k => k.trans h) (fun _ => rfl) 5 (by kernel_rfl) (by decide) ?_
        simp only [pick, List.getD_cons_zero, List.getD_cons_succ]
        have hcv : (z0.alloc (.cells #[.string a12] 9)).cell? ⟨w.heap.size + 1, N, none⟩ = some (v N) := (HS.out.later (one_new z0 (.cells #[.string a12] 9))).cell N hN2
        go_wp2_with fail
        clear hcv
        refine pieceEnd_normal ⟨rfl, ?_⟩
        refine flow_one (F := (fun a b => b.heap[w1.heap.size]? = a.heap[w1.heap.size]?)) (fun _ _ _ h k => k.trans h) (fun _ => rfl) 8 (by kernel_rfl) (by decide) ?_
        simp only [pick, List.getD_cons_zero, List.getD_cons_succ]
        go_wp2_with (at_builtin; go_must (refine wpList_app_newK z0 rfl (.tmp 20) (.tmp 22) 125 9 rfl (w.heap.size + 1 + 1) Tryz.underlying125 str_info rfl (v N) _ _ (HS.out.own N hN2) rfl 1 #[.string a12] rfl (by simp [Value.oneCell']) rfl rfl (by have h1 := came_len l seen N; have h2 := HSZ.out; unfold maxLen; omega) (by have h1 := came_len l seen N; have h2 := HSZ.out; omega) (by have h1 := HS.out.lt; omega) ?_); intro x3 z3 ho hb hk1 hk2; obtain ⟨A3, c3, hv3, hr3⟩ := Row.of_own ho; subst hv3)
        have hs5 : z3.heap[w1.heap.size]? = z0.heap[w1.heap.size]? := hk1 _ HLT.out (own_block1 (HS.out.own N hN2) HXS.out (by decide))
        have hgz : z3.heap[w.heap.size + 1]? = z0.heap[w.heap.size + 1]? := hb.block _ (Nat.lt_succ_self _)
        have HIT3 : Hid (IterAt z3 (w.heap.size + 1 + 1) b (l.map pairS).length (seen.push j)) := Lib.hid ((hk1 _ HIT.out.lt (own_notIter (HS.out.own N hN2) HIT.out)).trans HIT.out)
        have HM3 : Hid (MapAt z3 b (l.map pairS)) := Lib.hid ((hb.block b (by have h := HBL.out; omega)).trans HM.out)
        have HX3 : Hid (z3.heap[w.heap.size]? = some (.cells Tryz.zeroCells126 126 (0, 0))) := Lib.hid ((hb.block _ (by omega)).trans HX.out)
        have HB3 : Hid (Below w.heap.size w z3) := Lib.hid (HB.out.trans (hb.mono (by omega)))
        have HS3 := Lib.hid (HS.out.put N hN2 hb hk1 (x := .slice A3 ((came l seen N).length + 1) c3) (l := came l seen N ++ [a12]) (by unfold TOwn; rw [strsV_app, List.length_append]; exact ho) hk2)
        have hfz : z3.frozen? ⟨w.heap.size + 1, N, none⟩ = false := frozen_of_row _ _ _ _ _ (hgz.trans HS.out.here)
        have hcz : z3.cell? ⟨w.heap.size + 1, N, none⟩ = some (v N) := by rw [cell_of_row _ _ _ _ _ _ (hgz.trans HS.out.here)]; exact slots_cell v N hN2
        have HGZ := Lib.hid hgz
        refine pieceEnd_normal ⟨hs5.trans ((one_new z0 (.cells #[.string a12] 9)).block _ HLT.out).symm, ?_⟩
        clear hs5 hb hk1 hk2 ho hr3 hgz
        refine flow_one (F := (fun a b => b.heap[w1.heap.size]? = a.heap[w1.heap.size]?)) (fun _ _ _ h k => k.trans h) (fun _ => rfl) 9 (by kernel_rfl) (by decide) ?_
        simp only [pick, List.getD_cons_zero, List.getD_cons_succ]
        go_wp2_with fail
        refine pieceEnd_normal ⟨rfl, ?_⟩
        refine flow_one (F := (fun a b => b.heap[w1.heap.size]? = a.heap[w1.heap.size]?)) (fun _ _ _ h k => k.trans h) (fun _ => rfl) 10 (by kernel_rfl) (by decide) ?_
        simp only [pick, List.getD_cons_zero, List.getD_cons_succ]
        go_wp2_with fail
        clear hfz hcz
        refine pieceEnd_normal ⟨Below.heap_setCell _ _ _ _ (by have h := HSB.out; show w1.heap.size ≠ w.heap.size + 1; omega), ?_⟩
        refine flow_done (by kernel_rfl) ?_
        have hb4 : Below (w.heap.size + 1) z3 (z3.setCell ⟨w.heap.size + 1, N, none⟩ (.slice A3 ((came l seen N).length + 1) c3)) := Below.setCell (p := ⟨w.heap.size + 1, N, none⟩) (Below.refl _ _) (Nat.le_refl _) _
        have HIT4 : Hid (IterAt (z3.setCell ⟨w.heap.size + 1, N, none⟩ (.slice A3 ((came l seen N).length + 1) c3)) (w.heap.size + 1 + 1) b (l.map pairS).length (seen.push j)) := Lib.hid ((Below.heap_setCell _ _ _ _ (by show w.heap.size + 1 + 1 ≠ w.heap.size + 1; omega)).trans HIT3.out)
        have HM4 : Hid (MapAt (z3.setCell ⟨w.heap.size + 1, N, none⟩ (.slice A3 ((came l seen N).length + 1) c3)) b (l.map pairS)) := Lib.hid ((hb4.block b (by have h := HBL.out; omega)).trans HM3.out)
        have HX4 : Hid ((z3.setCell ⟨w.heap.size + 1, N, none⟩ (.slice A3 ((came l seen N).length + 1) c3)).heap[w.heap.size]? = some (.cells Tryz.zeroCells126 126 (0, 0))) := Lib.hid ((hb4.block _ (by omega)).trans HX3.out)
        have HB4 := Lib.hid (HB3.out.trans (hb4.mono (by omega)))
        have HLE4 : Hid (leftW (z3.setCell ⟨w.heap.size + 1, N, none⟩ (.slice A3 ((came l seen N).length + 1) c3)) (w.heap.size + 1 + 1) b < leftW wr (w.heap.size + 1 + 1) b) := Lib.hid (by
          rw [leftW_eq HIT4.out HM4.out, ← leftW_eq HITW.out HMW.out]; exact HLE.out)
        clear hb4
        go_wp2_with fail
        refine ⟨⟨seen.push j, upd v N (.slice A3 ((came l seen N).length + 1) c3), Lib.hid ⟨HIT4.out, HM4.out, by rw [HCF.out]; exact HS3.out, HB4.out, HX4.out, HCO.out⟩⟩, HLE4.out⟩
end Go.Proofs.YtkglgboncngpbaaGreatDoor
/- The walk of chain's continues. -/
namespace Go.Proofs.YtkglgboncngpbaaGreatDoor
open Go.RowKit
/-- A row of statements goes on with o. -/
def contB (l : List Stm) (o : Stm) : Bool := if l.length = 0 then true else decide ((l.getD (l.length - 1) noStm).kind ≠ 3) && (behindB (l.getD (l.length - 1) noStm) o && (o.prev.toList == (l.getD (l.length - 1) noStm).dig.toList))
end Go.Proofs.YtkglgboncngpbaaGreatDoor
