/- Maps whose keys are strings and whose elements are whatever they are, as the heap holds them: filled, looked into, ranged over. Plain facts over any program. -/
import Derived.Test.YtnjilfdmplbalaaGreatDoorDice
import Derived.Maps.RangeRun
import Derived.MapKept
namespace Go.Proofs.YtnjilfdmplbalaaGreatDoor
open Go.RowKit Go Go.ChangeMaps
/-- The entries that hold some pairs, laid in their order, none taken away. -/
def entsFrom : List (ByteArray × Value) → Nat → List MapEntry
  | [], _ => []
  | p :: l, i => ⟨.string p.1, p.2, i⟩ :: entsFrom l (i + 1)
theorem entsFrom_app (l m : List (ByteArray × Value)) : ∀ i, entsFrom (l ++ m) i = entsFrom l i ++ entsFrom m (i + l.length) := by
  induction l with
  | nil => intro i; rfl
  | cons p l ih =>
    intro i
    simp only [List.cons_append, entsFrom, ih (i + 1), List.length_cons]
    rw [show i + 1 + l.length = i + (l.length + 1) by omega]
theorem entsFrom_len (l : List (ByteArray × Value)) : ∀ i, (entsFrom l i).length = l.length := by
  induction l with
  | nil => intro i; rfl
  | cons p l ih => intro i; simp only [entsFrom, List.length_cons, ih (i + 1)]
theorem entsFrom_born (l : List (ByteArray × Value)) : ∀ i, (entsFrom l i).map (·.born) = List.range' i l.length := by
  induction l with
  | nil => intro i; rfl
  | cons p l ih => intro i; simp only [entsFrom, List.map_cons, List.length_cons, ih (i + 1), List.range'_succ]
theorem entsFrom_mem (l : List (ByteArray × Value)) : ∀ i (e : MapEntry), e ∈ entsFrom l i → ∃ j k v, l[j]? = some (k, v) ∧ e = ⟨.string k, v, i + j⟩ := by
  induction l with
  | nil => intro i e h; cases h
  | cons p l ih =>
    intro i e h
    simp only [entsFrom, List.mem_cons] at h
    rcases h with h | h
    · exact ⟨0, p.1, p.2, rfl, h⟩
    · obtain ⟨j, k, v, h1, h2⟩ := ih (i + 1) e h
      exact ⟨j + 1, k, v, by simpa using h1, by rw [h2, show i + 1 + j = i + (j + 1) by omega]⟩
theorem entsFrom_at (l : List (ByteArray × Value)) : ∀ i j k v, l[j]? = some (k, v) → (⟨.string k, v, i + j⟩ : MapEntry) ∈ entsFrom l i := by
  induction l with
  | nil => intro i j k v h; cases h
  | cons p l ih =>
    intro i j k v h
    cases j with
    | zero =>
      have e : p = (k, v) := by simpa using h
      subst e
      exact List.mem_cons_self
    | succ j =>
      have := ih (i + 1) j k v (by simpa using h)
      rw [show i + 1 + j = i + (j + 1) by omega] at this
      exact List.mem_cons_of_mem _ this
/-- The map in block b holds the pairs l. -/
def MapAt (w : World) (b : Nat) (l : List (ByteArray × Value)) : Prop := w.heap[b]? = some (.map (entsFrom l 0).toArray l.length)
theorem MapAt.lt {w : World} {b : Nat} {l : List (ByteArray × Value)} (h : MapAt w b l) : b < w.heap.size := (Array.getElem?_eq_some_iff.1 h).1
theorem MapAt.but {w w' : World} {b D : Nat} {l : List (ByteArray × Value)} (h : MapAt w b l) (hb : But D w w') (hne : b ≠ D) : MapAt w' b l := (hb.block b h.lt hne).trans h
theorem MapAt.later {w w' : World} {b : Nat} {l : List (ByteArray × Value)} (h : MapAt w b l) (hb : Below w.heap.size w w') : MapAt w' b l := (hb.block b h.lt).trans h
theorem mapAt_new (w : World) : MapAt (w.alloc (.map #[] 0)) w.heap.size [] := heap_alloc_new w _
theorem ba_ne {a b : ByteArray} (h : a ≠ b) : (a == b) = false := by
  obtain ⟨a⟩ := a
  obtain ⟨b⟩ := b
  show (a == b) = false
  exact beq_eq_false_iff_ne.2 (fun e => h (by rw [e]))
theorem ba_eq (a : ByteArray) : (a == a) = true := by
  obtain ⟨a⟩ := a
  show (a == a) = true
  exact beq_self_eq_true a
theorem findNow_no (k : ByteArray) (l : List (ByteArray × Value)) (h : ∀ p ∈ l, p.1 ≠ k) : ∀ i j, Instr.findNow .string (.string k) (entsFrom l i) j = some none := by
  induction l with
  | nil => intro i j; rfl
  | cons p l ih =>
    intro i j
    have h1 : (k == p.1) = false := ba_ne (fun e => h p List.mem_cons_self e.symm)
    simp only [entsFrom, Instr.findNow, Instr.sameNow, h1]
    exact ih (fun q hq => h q (List.mem_cons_of_mem _ hq)) _ _
theorem findNow_yes (k : ByteArray) (v : Value) (l2 : List (ByteArray × Value)) (l1 : List (ByteArray × Value)) (h : ∀ p ∈ l1, p.1 ≠ k) : ∀ i j, Instr.findNow .string (.string k) (entsFrom (l1 ++ (k, v) :: l2) i) j = some (some (j + l1.length, v)) := by
  induction l1 with
  | nil =>
    intro i j
    simp only [List.nil_append, entsFrom, Instr.findNow, Instr.sameNow, ba_eq, List.length_nil, Nat.add_zero]
  | cons p l ih =>
    intro i j
    have h1 : (k == p.1) = false := ba_ne (fun e => h p List.mem_cons_self e.symm)
    simp only [List.cons_append, entsFrom, Instr.findNow, Instr.sameNow, h1]
    rw [ih (fun q hq => h q (List.mem_cons_of_mem _ hq)) (i + 1) (j + 1), List.length_cons, show j + 1 + l.length = j + (l.length + 1) by omega]
theorem setBlock_at {w : World} {b : Nat} {o x : Obj} (h : w.heap[b]? = some x) : (setBlock w b o).heap[b]? = some o := by
  have hlt := (Array.getElem?_eq_some_iff.1 h).1
  simp [setBlock, hlt]
theorem setBlock_but (w : World) (b : Nat) (o : Obj) : But b w (setBlock w b o) :=
  ⟨rfl, rfl, rfl, by simp [setBlock], fun k _ hne => by simp [setBlock, Ne.symm hne]⟩
section
variable {P : Program} {t kt et : TypeId} {w : World} {b : Nat} {l : List (ByteArray × Value)}
theorem run_checkString (hk : P.underlying kt = some .string) (k : ByteArray) (e : Bool) (n : Nat) (w : World) : (Instr.checkKey e (n + 1) kt (.string k)).run P w = .ok () w := by
  unfold Instr.checkKey
  simp only [Sem.run_bind, run_underlying hk, Result.andThen]
  rfl
/-- m[k] = v, k not among the keys. -/
theorem run_put (hm : MapAt w b l) (ht : P.underlying t = some (.map kt et)) (hk : P.underlying kt = some .string) (k : ByteArray) (v : Value) (hn : ∀ p ∈ l, p.1 ≠ k) :
    (Instr.mapUpdate t (.map (some b)) (.string k) v).run P w = .ok () (setBlock w b (.map (entsFrom (l ++ [(k, v)]) 0).toArray (l ++ [(k, v)]).length)) := by
  have hf : (Instr.findKey kt (.string k) (entsFrom l 0)).run P w = .ok none w := by
    simp [Instr.findKey, run_underlying hk, findNow_no k l hn, Result.andThen]
  have hp : (entsFrom l 0).toArray.push ⟨.string k, v, l.length⟩ = (entsFrom (l ++ [(k, v)]) 0).toArray := by
    rw [entsFrom_app]; simp [entsFrom]
  simp only [Instr.mapUpdate, Sem.run_bind, run_underlying ht, Result.andThen_ok, MapKept.run_getObj_map hm, run_checkString hk k false 9999 w, hf, MapKept.run_setObj_map _ hm]
  rw [hp]
  simp [setBlock]
/-- m[k], k the key of a pair. -/
theorem run_has {l1 l2 : List (ByteArray × Value)} {k : ByteArray} {v : Value} (hm : MapAt w b (l1 ++ (k, v) :: l2)) (ht : P.underlying t = some (.map kt et)) (hk : P.underlying kt = some .string) (h1 : ∀ p ∈ l1, p.1 ≠ k) :
    (Instr.lookup t (.map (some b)) (.string k) false).run P w = .ok v w := by
  have hf : (Instr.findKey kt (.string k) (entsFrom (l1 ++ (k, v) :: l2) 0)).run P w = .ok (some (0 + l1.length, v)) w := by
    simp [Instr.findKey, run_underlying hk, findNow_yes k v l2 l1 h1, Result.andThen]
  simp [Instr.lookup, Sem.run_bind, run_underlying ht, Result.andThen_ok, MapKept.run_getObj_map hm, run_checkString hk k _ 9999 w, hf]
/-- v, ok := m[k], k the key of a pair. -/
theorem run_has2 {l1 l2 : List (ByteArray × Value)} {k : ByteArray} {v : Value} (hm : MapAt w b (l1 ++ (k, v) :: l2)) (ht : P.underlying t = some (.map kt et)) (hk : P.underlying kt = some .string) (h1 : ∀ p ∈ l1, p.1 ≠ k) :
    (Instr.lookup t (.map (some b)) (.string k) true).run P w = .ok (.tuple #[v, .bool true]) w := by
  have hf : (Instr.findKey kt (.string k) (entsFrom (l1 ++ (k, v) :: l2) 0)).run P w = .ok (some (0 + l1.length, v)) w := by
    simp [Instr.findKey, run_underlying hk, findNow_yes k v l2 l1 h1, Result.andThen]
  simp [Instr.lookup, Sem.run_bind, run_underlying ht, Result.andThen_ok, MapKept.run_getObj_map hm, run_checkString hk k _ 9999 w, hf]
/-- v, ok := m[k], k no key. -/
theorem run_hasnot2 {k : ByteArray} {z : Value} (hm : MapAt w b l) (ht : P.underlying t = some (.map kt et)) (hk : P.underlying kt = some .string) (hz : (zeroValue et).run P w = .ok z w) (h1 : ∀ p ∈ l, p.1 ≠ k) :
    (Instr.lookup t (.map (some b)) (.string k) true).run P w = .ok (.tuple #[z, .bool false]) w := by
  have hf : (Instr.findKey kt (.string k) (entsFrom l 0)).run P w = .ok none w := by
    simp [Instr.findKey, run_underlying hk, findNow_no k l h1, Result.andThen]
  simp [Instr.lookup, Sem.run_bind, run_underlying ht, Result.andThen_ok, MapKept.run_getObj_map hm, run_checkString hk k _ 9999 w, hf, hz]
/-- An iterator in block r over the map in block b, of n pairs; those that have come. -/
def IterAt (w : World) (r b n : Nat) (seen : Array Nat) : Prop := w.heap[r]? = some (.mapIter (some b) n seen n)
theorem IterAt.lt {w : World} {r b n : Nat} {seen : Array Nat} (h : IterAt w r b n seen) : r < w.heap.size := (Array.getElem?_eq_some_iff.1 h).1
theorem IterAt.but {w w' : World} {r b n D : Nat} {seen : Array Nat} (h : IterAt w r b n seen) (hb : But D w w') (hne : r ≠ D) : IterAt w' r b n seen := (hb.block r h.lt hne).trans h
theorem IterAt.later {w w' : World} {r b n : Nat} {seen : Array Nat} (h : IterAt w r b n seen) (hb : Below w.heap.size w w') : IterAt w' r b n seen := (hb.block r h.lt).trans h
theorem run_over (hm : MapAt w b l) (ht : P.underlying t = some (.map kt et)) :
    (Instr.range t (.map (some b))).run P w = .ok (.pointer (some ⟨w.heap.size, 0, none⟩)) (w.alloc (.mapIter (some b) l.length #[] l.length)) := run_range_map w t kt et b _ _ ht hm
/-- The next pair, whichever it is; or there is none left. -/
theorem run_nextPair {r : Nat} {seen : Array Nat} (hr : IterAt w r b l.length seen) (hm : MapAt w b l) (ty : TypeId) :
    ((∀ j, j < l.length → seen.contains j = true) ∧ (Instr.next (.pointer (some ⟨r, 0, none⟩)) false ty).run P w = .ok (.tuple #[.bool false]) w) ∨
    ∃ j k v w', l[j]? = some (k, v) ∧ seen.contains j = false ∧ (Instr.next (.pointer (some ⟨r, 0, none⟩)) false ty).run P w = .ok (.tuple #[.bool true, .string k, v]) w' ∧ IterAt w' r b l.length (seen.push j) ∧ But r w w' ∧ (leftOf (entsFrom l 0).toArray (seen.push j)).size < (leftOf (entsFrom l 0).toArray seen).size := by
  have hborn : ∀ x ∈ (entsFrom l 0).toArray.toList, x.born < l.length := fun x hx => by
    obtain ⟨j, k, v, h1, h2⟩ := entsFrom_mem l 0 x hx
    subst h2
    have := (List.getElem?_eq_some_iff.1 h1).1
    show 0 + j < l.length
    omega
  rcases run_next_at (P := P) w ty r b l.length l.length seen _ _ hr hm hborn (Nat.le_refl _) with ⟨h0, h1⟩ | ⟨e, he, w1, hw1, h1⟩
  · refine .inl ⟨fun j hj => ?_, h1⟩
    have hm2 : (⟨.string l[j].1, l[j].2, 0 + j⟩ : MapEntry) ∈ entsFrom l 0 := entsFrom_at l 0 j _ _ (by rw [List.getElem?_eq_getElem hj])
    cases hc : seen.contains j with
    | true => rfl
    | false =>
      have hin : (⟨.string l[j].1, l[j].2, 0 + j⟩ : MapEntry) ∈ leftOf (entsFrom l 0).toArray seen := by
        unfold leftOf
        rw [Array.mem_filter]
        refine ⟨by simpa using hm2, ?_⟩
        show (!seen.contains (0 + j)) = true
        rw [Nat.zero_add, hc]; rfl
      have := Array.size_pos_of_mem hin
      omega
  · have he2 : e ∈ leftOf (entsFrom l 0).toArray seen := by simpa using he
    unfold leftOf at he2
    rw [Array.mem_filter] at he2
    obtain ⟨j, k, v, h2, h3⟩ := entsFrom_mem l 0 e (by simpa using he2.1)
    subst h3
    have hsh := left_shrinks _ _ _ he
    rw [Nat.zero_add] at h1 he2 hsh
    refine .inr ⟨j, k, v, _, h2, ?_, h1, ?_, ?_, hsh⟩
    · have := he2.2
      simpa using this
    · have hr1 : w1.heap[r]? = some (.mapIter (some b) l.length seen l.length) := by rcases hw1 with rfl | rfl <;> exact hr
      exact setBlock_at hr1
    · rcases hw1 with rfl | rfl
      · exact setBlock_but _ _ _
      · exact But.trans (b := w.drew) ⟨rfl, rfl, rfl, Nat.le_refl _, fun _ _ _ => rfl⟩ (setBlock_but _ _ _)
/-- How many pairs have not come yet. -/
def leftW (w : World) (r b : Nat) : Nat :=
  match w.heap[r]?, w.heap[b]? with
  | some (.mapIter _ _ seen _), some (.map es _) => (leftOf es seen).size
  | _, _ => 0
theorem leftW_eq {r n : Nat} {seen : Array Nat} (hr : IterAt w r b n seen) (hm : MapAt w b l) : leftW w r b = (leftOf (entsFrom l 0).toArray seen).size := by
  unfold leftW
  rw [hr, hm]
/-- The pair that has come, read again. -/
theorem run_pair {r : Nat} {seen : Array Nat} {j : Nat} {k : ByteArray} {v : Value} (hr : IterAt w r b l.length (seen.push j)) (hm : MapAt w b l) (hj : l[j]? = some (k, v)) :
    (Instr.entry (.pointer (some ⟨r, 0, none⟩))).run P w = .ok (.tuple #[.string k, v]) w := by
  have he := entsFrom_at l 0 j k v hj
  rw [Nat.zero_add] at he
  exact run_entry_at (P := P) w r b l.length seen (entsFrom l 0).toArray l.length ⟨.string k, v, j⟩ hr hm (by simpa using he) (by
    show ((entsFrom l 0).map (·.born)).Nodup
    rw [entsFrom_born]
    exact List.nodup_range')
end
end Go.Proofs.YtnjilfdmplbalaaGreatDoor
