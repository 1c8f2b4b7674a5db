/- Slices as rows of cells: appended to, made, copied, cut, read as strings. Plain facts over any program. -/
import Derived.WalkKit
import Derived.WalkSpells
import Derived.OwnWalk
import Derived.Laws.OwnMore
import Derived.Deep.AppendSrc
import Derived.Laws.CopyRow
import Derived.Lib.Hide
import Derived.Test.YtnjilfdmplbalaaGreatDoorGrow
import Derived.Test.YtnjilfdmplbalaaGreatDoorByte
namespace Go.Proofs.YtnjilfdmplbalaaGreatDoor
open Go.RowKit
/-- A slice value that reads as the cells cs: n elements of sz cells each; nil and empty slices too. -/
structure Row (w : World) (A : Option Addr) (n c sz : Nat) (cs : List Value) : Prop where
  len : cs.length = n * sz
  cap : n ≤ c
  nil : A = none → n = 0 ∧ c = 0
  some_ : ∀ ad, A = some ad → 0 < c → ∃ b off, ad = ⟨b, off, none⟩ ∧ ∀ i, i < n * sz → w.cell? ⟨b, off + i, none⟩ = cs[i]?
theorem Row.form {w : World} {A : Option Addr} {n c sz : Nat} {cs : List Value} (h : Row w A n c sz cs) (hn : 0 < n) :
    ∃ b off, A = some ⟨b, off, none⟩ ∧ ∀ i, i < n * sz → w.cell? ⟨b, off + i, none⟩ = cs[i]? := by
  rcases hA : A with _ | ad
  · have := (h.nil hA).1; omega
  · obtain ⟨b, off, rfl, hc⟩ := h.some_ ad hA (by have := h.cap; omega)
    exact ⟨b, off, rfl, hc⟩
theorem Row.nilRow (w : World) (sz : Nat) : Row w none 0 0 sz [] := ⟨by simp, Nat.le_refl _, fun _ => ⟨rfl, rfl⟩, fun _ h _ => by cases h⟩
theorem Row.later {w w' : World} {A : Option Addr} {n c sz : Nat} {cs : List Value} (h : Row w A n c sz cs) (hb : Later w w') : Row w' A n c sz cs := by
  refine ⟨h.len, h.cap, h.nil, fun ad hA h0 => ?_⟩
  obtain ⟨b, off, rfl, hc⟩ := h.some_ ad hA h0
  refine ⟨b, off, rfl, fun i hi => ?_⟩
  have h1 := hc i hi
  rw [List.getElem?_eq_getElem (by rw [h.len]; exact hi)] at h1 ⊢
  rw [hb.cell (p := ⟨b, off + i, none⟩) (World.block_lt_of_cell? w _ h1)]; exact h1
/-- A row is as it was where its block is as it was. -/
theorem Row.keep {w w' : World} {A : Option Addr} {n c sz : Nat} {cs : List Value} (h : Row w A n c sz cs) (hk : ∀ ad, A = some ad → 0 < n → ad.block < w.heap.size → w'.heap[ad.block]? = w.heap[ad.block]?) : Row w' A n c sz cs := by
  refine ⟨h.len, h.cap, h.nil, fun ad hA h0 => ?_⟩
  obtain ⟨b, off, rfl, hc⟩ := h.some_ ad hA h0
  refine ⟨b, off, rfl, fun i hi => ?_⟩
  have h1 := hc i hi
  rw [List.getElem?_eq_getElem (by rw [h.len]; exact hi)] at h1 ⊢
  have h2 : b < w.heap.size := World.block_lt_of_cell? w (a := ⟨b, off + i, none⟩) h1
  have hn : 0 < n := by
    rcases Nat.eq_zero_or_pos n with e | e
    · rw [e, Nat.zero_mul] at hi; omega
    · exact e
  rw [World.cell?_of_block (w := w) (a := ⟨b, off + i, none⟩) (hk ⟨b, off, none⟩ hA hn h2)]; exact h1
theorem own_mono {w : World} {B B' : Nat} {e : TypeId} {sz : Nat} {v : Value} {n : Nat} {xs : List Value} (h : w.ownsRow B e sz v n xs) (hb : B' ≤ B) : w.ownsRow B' e sz v n xs :=
  ⟨h.1, h.2.imp id fun ⟨g, cap, cur, h1, h2, h3⟩ => ⟨g, cap, cur, h1, Nat.le_trans hb h2, h3⟩⟩
/-- What the call owns stays owned below blocks that turn. -/
theorem own_below {w w' : World} {B B' : Nat} {e : TypeId} {sz : Nat} {v : Value} {n : Nat} {xs : List Value} (h : w.ownsRow B e sz v n xs) (hb : Below B' w w') (hv : ∀ k, v.ownBlock = some k → k < B') : w'.ownsRow B e sz v n xs := by
  refine ⟨h.1, ?_⟩
  rcases h.2 with hn | ⟨g, cap, cur, rfl, hg, hgg, rest⟩
  · exact .inl hn
  · exact .inr ⟨g, cap, cur, rfl, hg, (hb.block g (hv g rfl)).trans hgg, rest⟩
theorem Row.lt {w : World} {A : Option Addr} {n c sz : Nat} {cs : List Value} (h : Row w A n c sz cs) (hz : 0 < sz) : ∀ ad, A = some ad → 0 < n → ad.block < w.heap.size := fun ad hA h0 => by
  obtain ⟨b, off, hA', hc⟩ := h.form h0
  rw [hA] at hA'; injection hA' with e; subst e
  have h1 := hc 0 (Nat.mul_pos h0 hz)
  rw [List.getElem?_eq_getElem (by rw [h.len]; exact Nat.mul_pos h0 hz)] at h1
  exact World.block_lt_of_cell? w _ h1
/-- A slice value of the call's own lies elsewhere than an address. -/
def Apart (v : Value) (A : Option Addr) : Prop := ∀ ad, A = some ad → v.ownBlock ≠ some ad.block
/-- An address, if it is one, lies in a block that was made between two worlds. -/
def New (w w' : World) (A : Option Addr) : Prop := ∀ ad, A = some ad → w.heap.size ≤ ad.block ∧ ad.block < w'.heap.size
theorem New.from {w0 w w' : World} {A : Option Addr} (h : New w w' A) (hs : w0.heap.size ≤ w.heap.size) : New w0 w' A := fun ad hA => ⟨Nat.le_trans hs (h ad hA).1, (h ad hA).2⟩
theorem Row.drew {w : World} {A : Option Addr} {n c sz : Nat} {cs : List Value} (h : Row w A n c sz cs) : Row w.drew A n c sz cs := h.later (Later.drew w)
theorem Row.below {w w' : World} {A : Option Addr} {n c sz B : Nat} {cs : List Value} (h : Row w A n c sz cs) (hb : Below B w w') (hB : w.heap.size ≤ B) : Row w' A n c sz cs := h.later (Below.mono hb hB)
theorem Row.of_own {w : World} {B : Nat} {e : TypeId} {sz : Nat} {v : Value} {n : Nat} {xs : List Value} (h : w.ownsRow B e sz v n xs) : ∃ A c, v = .slice A n c ∧ Row w A n c sz xs := by
  have hx := h
  rcases h.2 with ⟨rfl, rfl⟩ | ⟨g, cap, cur, rfl, hg, hgg, h1, h2, _⟩
  · have : xs = [] := List.eq_nil_of_length_eq_zero (by simpa using h.1)
    subst this
    exact ⟨none, 0, rfl, Row.nilRow w sz⟩
  · refine ⟨some ⟨g, 0, none⟩, cap, rfl, h.1, h1, fun e => (by cases e), fun ad e _ => ?_⟩
    injection e with e; subst e
    exact ⟨g, 0, rfl, fun i hi => by rw [Nat.zero_add]; exact World.ownsRow.cellAt hx i hi⟩
/-- The cells of a row that lies in a block that is known whole. -/
theorem Row.of_block {w : World} {g : Nat} {cs : Array Value} {t : TypeId} {fr : Nat × Nat} {n sz : Nat} (h : w.heap[g]? = some (.cells cs t fr)) (hn : cs.size = n * sz) : Row w (some ⟨g, 0, none⟩) n n sz cs.toList := by
  refine ⟨by simpa using hn, Nat.le_refl _, fun e => (by cases e), fun ad e _ => ?_⟩
  injection e with e; subst e
  exact ⟨g, 0, rfl, fun i _ => by rw [Nat.zero_add, cell_of_row _ _ _ _ _ _ h]; simp⟩
/-- One element of a row of elements of one cell. -/
theorem Row.cell {w : World} {b off n c : Nat} {cs : List Value} (h : Row w (some ⟨b, off, none⟩) n c 1 cs) (i : Nat) (hi : i < n) : w.cell? ⟨b, off + i, none⟩ = cs[i]? := by
  obtain ⟨b', off', e, hc⟩ := h.some_ _ rfl (by have := h.cap; omega)
  injection e with e1 e2; subst e1 e2
  exact hc i (by omega)
/-- The address of s[k:]. -/
def dropA (A : Option Addr) (c k sz : Nat) : Option Addr := if c = k then A else A.map (·.add (k * sz))
theorem Row.drop {w : World} {A : Option Addr} {n c sz : Nat} {cs : List Value} (h : Row w A n c sz cs) (k : Nat) (hk : k ≤ n) : Row w (dropA A c k sz) (n - k) (c - k) sz (cs.drop (k * sz)) := by
  have hcap := h.cap
  refine ⟨by rw [List.length_drop, h.len, Nat.sub_mul], by omega, fun hA => ?_, fun ad hA h0 => ?_⟩
  · unfold dropA at hA
    split at hA
    · have := h.nil hA; omega
    · rcases hA' : A with _ | a
      · have := h.nil hA'; omega
      · rw [hA'] at hA; cases hA
  · unfold dropA at hA
    split at hA
    · omega
    · rcases hA' : A with _ | a
      · rw [hA'] at hA; cases hA
      · rw [hA'] at hA
        obtain ⟨b, off, rfl, hcell⟩ := h.some_ a hA' (by omega)
        simp only [Option.map_some, Option.some.injEq] at hA
        subst hA
        refine ⟨b, off + k * sz, by rw [Addr.add_lit], fun i hi => ?_⟩
        rw [Nat.sub_mul] at hi
        rw [List.getElem?_drop, Nat.add_assoc]
        exact hcell _ (by omega)
theorem Row.take {w : World} {A : Option Addr} {n c sz : Nat} {cs : List Value} (h : Row w A n c sz cs) (k : Nat) (hk : k ≤ n) : Row w A k c sz (cs.take (k * sz)) := by
  have hcap := h.cap
  have hm : k * sz ≤ n * sz := Nat.mul_le_mul_right _ hk
  refine ⟨by rw [List.length_take, h.len]; omega, by omega, fun hA => ?_, fun ad hA h0 => ?_⟩
  · have := h.nil hA; omega
  · obtain ⟨b, off, rfl, hcell⟩ := h.some_ ad hA h0
    refine ⟨b, off, rfl, fun i hi => ?_⟩
    rw [List.getElem?_take, if_pos hi]; exact hcell i (by omega)
section
variable {P : Program}
theorem Row.src {w : World} {A : Option Addr} {n c sz : Nat} {cs : List Value} (h : Row w A n c sz cs) {t e : TypeId} (ht : P.underlying t = some (.slice e)) (h1 : ∀ u ∈ cs, u.oneCell' = true) : Src P sz t (.slice A n c) n cs w := by
  rcases hA : A with _ | ad
  · obtain ⟨rfl, rfl⟩ := h.nil hA
    have : cs = [] := List.eq_nil_of_length_eq_zero (by simpa using h.len)
    subst this
    exact Src.ofNil w ht 0
  · refine Src.ofSlice w ht _ n c cs h.len (fun j u hu => ?_) h1
    have hj : j < cs.length := by
      rcases Nat.lt_or_ge j cs.length with h1 | h1
      · exact h1
      · rw [List.getElem?_eq_none h1] at hu; cases hu
    have h0 : 0 < c := by
      have h2 := h.len
      rcases Nat.eq_zero_or_pos n with e | e
      · rw [e, Nat.zero_mul] at h2; omega
      · have := h.cap; omega
    obtain ⟨b, off, rfl, hc⟩ := h.some_ ad hA h0
    rw [Addr.add_lit, hc j (by rw [← h.len]; exact hj)]; exact hu
/-- append of whatever source onto a slice of the call's own. -/
theorem run_app (w : World) (base : Nat) (t tx ty e : TypeId) (i : TypeInfo) (z : Value) (size bytes : Nat) (ht : P.underlying t = some (.slice e)) (hi : P.info? e = some i) (hz : i.zero = some z)
    (hsize : i.size = size) (hby : i.bytes = bytes) (hzs : z.cells.size = size)
    (v : Value) (n : Nat) (xs : List Value) (hown : w.ownsRow base e size v n xs) (x : Value) (m : Nat) (news : List Value) (hs : Src P size tx x m news w)
    (h63 : n + m ≤ maxLen) (hbytes : (n + m) * bytes ≤ 140737488355328) (hbase : base ≤ w.heap.size) :
    ∃ v' w', (Builtin.append_ #[t, tx] ty #[v, x]).run P w = .ok v' w' ∧ w'.ownsRow base e size v' (n + m) (xs ++ news) ∧ w.grownBy w' v.ownBlock ∧ (v'.ownBlock = v.ownBlock ∨ v'.ownBlock = some w.heap.size) := by
  subst hsize
  subst hby
  have hsmall : n + m ≤ 9223372036854775807 := by simp only [maxLen] at h63; omega
  have hl := hs.newsLen
  have hlen : (xs ++ news).length = (n + m) * i.size := by rw [List.length_append, hown.1, hl, Nat.add_mul]
  have grown : ∀ (old : Nat), old < n + m → ∀ (row : Option Nat),
      (w.drew.alloc (.cells ((xs ++ news).toArray ++ Builtin.zeroCells z.cells (grownCap w (n + m) old e - (n + m))) e)).ownsRow base e i.size
        (.slice (some ⟨w.heap.size, 0, none⟩) (n + m) (grownCap w (n + m) old e)) (n + m) (xs ++ news) ∧
      w.grownBy (w.drew.alloc (.cells ((xs ++ news).toArray ++ Builtin.zeroCells z.cells (grownCap w (n + m) old e - (n + m))) e)) row := by
    intro old ho row
    have hge := grownCap_ge w (n + m) old e
    have hcm : grownCap w (n + m) old e ≤ maxLen := grownCap_le_maxLen w (n + m) old e h63
    refine ⟨⟨hlen, .inr ⟨w.heap.size, _, _, rfl, hbase, heap_alloc_new w.drew _, hge, hcm, ?_, ?_⟩⟩, ⟨rfl, rfl, rfl, by simp, fun k hk _ => Below.heap_alloc w.drew _ k hk⟩⟩
    · simp only [Array.size_append, List.size_toArray, size_zeroCells, hzs, hlen, ← Nat.add_mul]
      congr 1
      omega
    · simp only [Array.toList_append]
      rw [← hlen]
      exact List.take_left
  rcases hown.2 with ⟨rfl, rfl⟩ | ⟨g, cap, cur, rfl, hbg, hg, hnc, hcm, hcs, htake⟩
  · have hx : xs = [] := List.eq_nil_of_length_eq_zero (by simpa using hown.1)
    subst hx
    by_cases hm : m = 0
    · subst hm
      have hn : news = [] := List.eq_nil_of_length_eq_zero (by simpa using hl)
      subst hn
      refine ⟨.slice none 0 0, w, ?_, World.ownsRow_nil w base e i.size, ⟨rfl, rfl, rfl, Nat.le_refl _, fun _ _ _ => rfl⟩, .inl rfl⟩
      have hc := hs.cells
      rcases hs.kind with ⟨e', hk⟩ | hk <;>
        simp [Builtin.append_, run_underlying ht, run_underlying hk, sizeOf, typeInfo, hi, hs.len, hc]
    · have hr := run_append_grow_src (P := P) w t tx ty e i z ht hi hz none 0 0 [] (by simp [Builtin.firstCells]) x m news hs (by omega) (by omega) (growslice_fits (need := 0 + m) (old := 0) (bytes := i.bytes) (by omega) hbytes)
      have hgr := grown 0 (by omega) (Value.ownBlock (.slice none 0 0))
      simp only [Nat.zero_add, List.nil_append] at hgr hr ⊢
      exact ⟨_, _, hr, hgr.1, hgr.2, .inr rfl⟩
  · by_cases hroom : n + m ≤ cap
    · have hfit : n * i.size + news.length ≤ cur.size := by rw [hl, hcs, ← Nat.add_mul]; exact Nat.mul_le_mul_right _ hroom
      have hst := run_storeCells_at P g (n * i.size) e news 0 cur w hg (by simpa using hfit) hs.one
      refine ⟨.slice (some ⟨g, 0, none⟩) (n + m) cap, w.setRow g (cur.toList.take (n * i.size) ++ news ++ cur.toList.drop (n * i.size + news.length)).toArray, ?_, ⟨hlen, .inr ⟨g, cap, _, rfl, hbg, setRow_heap w g cur _ e _ hg, hroom, hcm, ?_, ?_⟩⟩, ⟨rfl, rfl, rfl, by simp, fun k _ hk => setRow_other w g k _ (fun e => hk (by simp [Value.ownBlock, e]))⟩, .inl rfl⟩
      · simp only [Nat.add_zero] at hst
        rcases hs.kind with ⟨e', hk⟩ | hk <;> simp [Builtin.append_, run_underlying ht, run_underlying hk, sizeOf, typeInfo, hi, hs.len, hroom, hs.cells, Addr.add_lit, hst]
      · simp only [List.size_toArray, List.length_append, List.length_take, List.length_drop, Array.length_toList]
        omega
      · rw [htake, ← hlen]
        exact List.take_left
    · have holds : ∀ j u, xs[j]? = some u → w.cell? ((⟨g, 0, none⟩ : Addr).add j) = some u := hown.cells (g := g) rfl
      have hold := run_firstCells_some (P := P) w.drew i.size n ⟨g, 0, none⟩ n cap xs hown.1 (by simpa using holds)
      have hr := run_append_grow_src (P := P) w t tx ty e i z ht hi hz (some ⟨g, 0, none⟩) n cap xs hold x m news hs (by omega) (by omega) (growslice_fits (by omega) hbytes)
      have hgr := grown cap (by omega) (Value.ownBlock (.slice (some ⟨g, 0, none⟩) n cap))
      exact ⟨_, _, hr, hgr.1, hgr.2, .inr rfl⟩

variable {ops : Array Oper} {rest : List Oper} {o : Oper} {a : Act} {Q : Exit → Act → World → Prop}
/-- append of whatever source onto a slice of the call's own, in a walk. -/
theorem wpList_app (w : World) (hgd : o.guard = none) (s x : Operand) (t tx e : TypeId) (ho : o.op = .call { callee := .builtin .append, args := #[s, x], argTypes := #[t, tx] })
    (base : Nat) (ht : P.underlying t = some (.slice e)) {z : Value} {size bytes : Nat} (hi : (P.info? e).map (fun i => (i.zero, i.size, i.bytes)) = some (some z, size, bytes)) (hzs : z.cells.size = size)
    (v : Value) (n : Nat) (xs : List Value) (hown : w.ownsRow base e size v n xs) (hs : a.eval s = v) (X : Value) (m : Nat) (news : List Value) (hsrc : Src P size tx X m news w) (hx : a.eval x = X)
    (h63 : n + m ≤ maxLen) (hbytes : (n + m) * bytes ≤ 140737488355328) (hbase : base ≤ w.heap.size)
    (h : ∀ v' w', w'.ownsRow base e size v' (n + m) (xs ++ news) → Below base w w' → wpList P ops Q rest (a.put o.dst v') w') : wpList P ops Q (o :: rest) a w := by
  obtain ⟨i0, hi0, hz0, hz1, hz2⟩ := info_parts hi
  obtain ⟨v', w', hr, h2, h3, _⟩ := run_app w base t tx o.type e i0 z size bytes ht hi0 hz0 hz1 hz2 hzs v n xs hown X m news hsrc h63 hbytes hbase
  refine wpList_plain hgd fun K hK => ?_
  unfold Oper.wp execOp
  simp only [ho, resolve, invoke, builtin, Sem.run_bind, Sem.run_pure, Result.andThen_ok, List.map_toArray, List.map_cons, List.map_nil, hs, hx, hr]
  exact hK _ _ (h v' w' h2 ((Below.refl base w).grown h3 hbase (fun k hk => (World.ownsRow.lt hown k hk).1)))
/-- An operation that is wanted. -/
theorem wpList_want {w : World} (hw : Region.wanted o (yielded ops a.tmps) = true) (h : ∀ K : Act → World → Prop, (∀ a w, wpList P ops Q rest a w → K a w) → o.wp P a w K Q) : wpList P ops Q (o :: rest) a w := by
  unfold wpList; rw [if_pos hw]; exact .inl (h _ (fun _ _ h => h))
/-- The same where the operation is guarded. -/
theorem wpList_appG (w : World) (hw : Region.wanted o (yielded ops a.tmps) = true) (s x : Operand) (t tx e : TypeId) (ho : o.op = .call { callee := .builtin .append, args := #[s, x], argTypes := #[t, tx] })
    (base : Nat) (ht : P.underlying t = some (.slice e)) {z : Value} {size bytes : Nat} (hi : (P.info? e).map (fun i => (i.zero, i.size, i.bytes)) = some (some z, size, bytes)) (hzs : z.cells.size = size)
    (v : Value) (n : Nat) (xs : List Value) (hown : w.ownsRow base e size v n xs) (hs : a.eval s = v) (X : Value) (m : Nat) (news : List Value) (hsrc : Src P size tx X m news w) (hx : a.eval x = X)
    (h63 : n + m ≤ maxLen) (hbytes : (n + m) * bytes ≤ 140737488355328) (hbase : base ≤ w.heap.size)
    (h : ∀ v' w', w'.ownsRow base e size v' (n + m) (xs ++ news) → Below base w w' → wpList P ops Q rest (a.put o.dst v') w') : wpList P ops Q (o :: rest) a w := by
  obtain ⟨i0, hi0, hz0, hz1, hz2⟩ := info_parts hi
  obtain ⟨v', w', hr, h2, h3, _⟩ := run_app w base t tx o.type e i0 z size bytes ht hi0 hz0 hz1 hz2 hzs v n xs hown X m news hsrc h63 hbytes hbase
  refine wpList_want hw fun K hK => ?_
  unfold Oper.wp execOp
  simp only [ho, resolve, invoke, builtin, Sem.run_bind, Sem.run_pure, Result.andThen_ok, List.map_toArray, List.map_cons, List.map_nil, hs, hx, hr]
  exact hK _ _ (h v' w' h2 ((Below.refl base w).grown h3 hbase (fun k hk => (World.ownsRow.lt hown k hk).1)))
/-- append of cells that a new block holds. -/
theorem wpList_app_new (wr : World) (hgd : o.guard = none) (s x : Operand) (t e : TypeId) (ho : o.op = .call { callee := .builtin .append, args := #[s, x], argTypes := #[t, t] })
    (base : Nat) (ht : P.underlying t = some (.slice e)) {z : Value} {size bytes : Nat} (hi : (P.info? e).map (fun i => (i.zero, i.size, i.bytes)) = some (some z, size, bytes)) (hzs : z.cells.size = size)
    (v : Value) (n : Nat) (xs : List Value) (hown : wr.ownsRow base e size v n xs) (hs : a.eval s = v) (m : Nat) (cs : Array Value) (hm : cs.size = m * size) (h1 : ∀ u ∈ cs.toList, u.oneCell' = true)
    (hx : a.eval x = .slice (some ⟨wr.heap.size, 0, none⟩) m m) {w0 : World} {fr : Nat × Nat} (hw0 : w0 = wr.alloc (.cells cs e fr))
    (h63 : n + m ≤ maxLen) (hbytes : (n + m) * bytes ≤ 140737488355328) (hbase : base ≤ wr.heap.size)
    (h : ∀ v' w', w'.ownsRow base e size v' (n + m) (xs ++ cs.toList) → Below base wr w' → wpList P ops Q rest (a.put o.dst v') w') : wpList P ops Q (o :: rest) a w0 := by
  subst hw0
  refine wpList_app _ hgd s x t t e ho base ht hi hzs v n xs (World.ownsRow.alloc hown _) hs _ m cs.toList ((Row.of_block (heap_alloc_new _ _) hm).src ht h1) hx h63 hbytes (by simp; omega) fun v' w' h2 h3 => ?_
  exact h v' w' h2 (((Below.refl base wr).alloc hbase _).trans h3)
/-- The same, and what it leaves alone: all old blocks but the slice's own; and where the new slice lies. -/
theorem wpList_app_newK (wr : World) (hgd : o.guard = none) (s x : Operand) (t e : TypeId) (ho : o.op = .call { callee := .builtin .append, args := #[s, x], argTypes := #[t, t] })
    (base : Nat) (ht : P.underlying t = some (.slice e)) {z : Value} {size bytes : Nat} (hi : (P.info? e).map (fun i => (i.zero, i.size, i.bytes)) = some (some z, size, bytes)) (hzs : z.cells.size = size)
    (v : Value) (n : Nat) (xs : List Value) (hown : wr.ownsRow base e size v n xs) (hs : a.eval s = v) (m : Nat) (cs : Array Value) (hm : cs.size = m * size) (h1 : ∀ u ∈ cs.toList, u.oneCell' = true)
    (hx : a.eval x = .slice (some ⟨wr.heap.size, 0, none⟩) m m) {w0 : World} {fr : Nat × Nat} (hw0 : w0 = wr.alloc (.cells cs e fr))
    (h63 : n + m ≤ maxLen) (hbytes : (n + m) * bytes ≤ 140737488355328) (hbase : base ≤ wr.heap.size)
    (h : ∀ v' w', w'.ownsRow base e size v' (n + m) (xs ++ cs.toList) → Below base wr w' → (∀ k, k < wr.heap.size → v.ownBlock ≠ some k → w'.heap[k]? = wr.heap[k]?) → (v'.ownBlock = v.ownBlock ∨ ∃ k, wr.heap.size ≤ k ∧ v'.ownBlock = some k) → wpList P ops Q rest (a.put o.dst v') w') :
    wpList P ops Q (o :: rest) a w0 := by
  subst hw0
  obtain ⟨i0, hi0, hz0, hz1, hz2⟩ := info_parts hi
  obtain ⟨v', w', hr, h2, h3, h4⟩ := run_app (wr.alloc (.cells cs e fr)) base t t o.type e i0 z size bytes ht hi0 hz0 hz1 hz2 hzs v n xs (World.ownsRow.alloc hown _) _ m cs.toList ((Row.of_block (heap_alloc_new _ _) hm).src ht h1) h63 hbytes (by simp; omega)
  refine wpList_plain hgd fun K hK => ?_
  unfold Oper.wp execOp
  simp only [ho, resolve, invoke, builtin, Sem.run_bind, Sem.run_pure, Result.andThen_ok, List.map_toArray, List.map_cons, List.map_nil, hs, hx, hr]
  refine hK _ _ (h v' w' h2 ((((Below.refl base wr).alloc hbase _)).grown h3 (by simp; omega) (fun k hk => (World.ownsRow.lt hown k hk).1)) (fun k hk hne => ?_) (h4.imp id (fun e => ⟨_, by simp, e⟩)))
  rw [h3.block k (by simp; omega) (fun e => hne e.symm), Below.heap_alloc _ _ _ hk]
/-- make of n elements with room for c, elements of one cell. -/
theorem wpList_make (w : World) (hgd : o.guard = none) (l c : Operand) (t e : TypeId) (ho : o.op = Op.makeSlice t l c)
    (base : Nat) (ht : P.underlying t = some (.slice e)) {z : Value} {bytes : Nat} (hi : (P.info? e).map (fun i => (i.zero, i.size, i.bytes)) = some (some z, 1, bytes)) (hzs : z.cells = #[z])
    (n k : Nat) {kl kc : IntKind} {L C : Int} (hl : a.eval l = .int kl L) (hc : a.eval c = .int kc C) (hL : L = (n : Int)) (hC : C = (k : Int)) (hnk : n ≤ k) (hb : k * bytes ≤ 140737488355328) (h63 : k ≤ maxLen) (hbase : base ≤ w.heap.size)
    (h : ∀ w', w'.ownsRow base e 1 (.slice (some ⟨w.heap.size, 0, none⟩) n k) n (List.replicate n z) → Below w.heap.size w w' → wpList P ops Q rest (a.put o.dst (.slice (some ⟨w.heap.size, 0, none⟩) n k)) w') : wpList P ops Q (o :: rest) a w := by
  obtain ⟨i0, hi0, hz0, hz1, hz2⟩ := info_parts hi
  subst hL hC
  have h63' : (k : Int) ≤ 9223372036854775807 := by have := h63; unfold maxLen at this; omega
  have hb' : (i0.bytes : Int) * (k : Int) ≤ 281474976710656 := by
    have h : ((i0.bytes * k : Nat) : Int) ≤ 281474976710656 := by rw [hz2, Nat.mul_comm]; omega
    rwa [Int.natCast_mul] at h
  have hr := run_make (P := P) w t e i0 z ht hi0 hz0 kl kc n k (by omega) (by omega) hb' h63'
  simp only [Int.toNat_natCast, hz1, hzs, Nat.mul_one] at hr
  refine wpList_plain hgd fun K hK => ?_
  unfold Oper.wp
  simp [execOp, ho, hl, hc, hr, Result.andThen]
  refine hK _ _ (h _ ⟨by simp, .inr ⟨w.heap.size, k, _, rfl, hbase, heap_alloc_new _ _, hnk, h63, by rw [size_madeCells, Nat.mul_one], ?_⟩⟩ ((Below.refl _ _).alloc (Nat.le_refl _) _))
  rw [toList_madeCells_one, Nat.mul_one, List.take_replicate, Nat.min_eq_left hnk]
/-- copy of as many elements as the slice of the call's own has, elements of one cell. -/
theorem wpList_copy_all (w : World) (hgd : o.guard = none) (d s : Operand) (t tx e ex : TypeId) (ho : o.op = .call { callee := .builtin .copy, args := #[d, s], argTypes := #[t, tx] })
    (base : Nat) (ht : P.underlying t = some (.slice e)) (htx : P.underlying tx = some (.slice ex)) (hsz : (P.info? e).map (·.size) = some 1)
    (g n k : Nat) (xs : List Value) (hown : w.ownsRow base e 1 (.slice (some ⟨g, 0, none⟩) n k) n xs) (hd : a.eval d = .slice (some ⟨g, 0, none⟩) n k)
    (A : Option Addr) (c : Nat) (cs : List Value) (hrow : Row w A n c 1 cs) (h1 : ∀ u ∈ cs, u.oneCell' = true) (hs : a.eval s = .slice A n c)
    (h : ∀ w', w'.ownsRow base e 1 (.slice (some ⟨g, 0, none⟩) n k) n cs → Below base w w' → wpList P ops Q rest (a.put o.dst (goInt n)) w') : wpList P ops Q (o :: rest) a w := by
  have hown' := hown
  rcases hown.2 with ⟨h', _⟩ | ⟨g', cap, cur, h', hbg, hg, hnc, hcm, hcs, htake⟩
  · cases h'
  simp only [Value.slice.injEq, Option.some.injEq, Addr.mk.injEq, and_true, true_and] at h'
  obtain ⟨rfl, rfl⟩ := h'
  have hcl : cs.length = n := by simpa using hrow.len
  have hsrc := hrow.src htx h1
  obtain ⟨i0, hi0, hi1⟩ : ∃ i0, P.info? e = some i0 ∧ i0.size = 1 := by
    cases hq : P.info? e with
    | none => rw [hq] at hsz; cases hsz
    | some i => rw [hq] at hsz; exact ⟨i, rfl, by simpa using hsz⟩
  have hst := run_storeCells_at P g 0 e cs 0 cur w hg (by rw [hcl, hcs]; omega) h1
  simp only [Nat.zero_add, List.take_zero, List.nil_append] at hst
  have hr : (Builtin.copy_ #[t, tx] o.type #[.slice (some ⟨g, 0, none⟩) n k, .slice A n c]).run P w = .ok (goInt n) (w.setRow g (cs ++ cur.toList.drop cs.length).toArray) := by
    have hc := hsrc.cells
    have hl := hsrc.len
    simp [Builtin.copy_, run_underlying ht, sizeOf, typeInfo, hi0, hi1, hl, hc, hst]
  refine wpList_plain hgd fun K hK => ?_
  unfold Oper.wp execOp
  simp only [ho, resolve, invoke, builtin, Sem.run_bind, Sem.run_pure, Result.andThen_ok, List.map_toArray, List.map_cons, List.map_nil, hs, hd, hr]
  refine hK _ _ (h _ ⟨by simp [hcl], .inr ⟨g, k, _, rfl, hbg, setRow_heap w g cur _ e _ hg, hnc, hcm, ?_, ?_⟩⟩ ((Below.refl base w).trans ⟨rfl, rfl, rfl, by simp [World.setRow], fun j hj => setRow_other w g j _ (by omega)⟩))
  · simp only [List.size_toArray, List.length_append, List.length_drop, Array.length_toList]; omega
  · rw [Nat.mul_one, ← hcl]; exact List.take_left
/-- 's[k:]', spelled under one name. -/
theorem run_slice_from {t e : TypeId} (ht : P.underlying t = some (.slice e)) {sz : Nat} (hz : (P.info? e).map (·.size) = some sz) {A : Option Addr} {n c k : Nat} {i : Int} (hi : i = (k : Int)) (hk : k ≤ n) (kk : IntKind) (w : World) :
    (Instr.slice t (.slice A n c) (some (.int kk i)) none none).run P w = .ok (.slice (dropA A c k sz) (n - k) (c - k)) w := by
  subst hi
  have h1 : (0 : Int) ≤ (k : Int) ∧ (k : Int) ≤ (n : Int) := by omega
  cases hq : P.info? e with
  | none => rw [hq] at hz; cases hz
  | some ie =>
    have hs : ie.size = sz := by rw [hq] at hz; simpa using hz
    unfold dropA
    simp [Instr.slice, run_underlying ht, Instr.sliceBounds, Instr.sliceBound, asIntOf, h1, sizeOf, typeInfo, hq, hs]
    intro h2; omega
/-- 's[:k]'. -/
theorem run_slice_to {t e : TypeId} (ht : P.underlying t = some (.slice e)) {sz : Nat} (hz : (P.info? e).map (·.size) = some sz) {w0 : World} {A : Option Addr} {n c k : Nat} {cs : List Value} (hrow : Row w0 A n c sz cs) {i : Int} (hi : i = (k : Int)) (hk : k ≤ n) (kk : IntKind) (w : World) :
    (Instr.slice t (.slice A n c) none (some (.int kk i)) none).run P w = .ok (.slice A k c) w := by
  subst hi
  cases hq : P.info? e with
  | none => rw [hq] at hz; cases hz
  | some ie =>
    have hkc : k ≤ c := Nat.le_trans hk hrow.cap
    have hA : Option.map (fun x : Addr => x.add 0) A = A := by
      rcases hA : A with _ | ad
      · rfl
      · simp [Addr.add]
    simp [Instr.slice, run_underlying ht, Instr.sliceBounds, Instr.sliceBound, asIntOf, sizeOf, typeInfo, hq, hkc, hA]
/-- 'string(b)'. -/
theorem run_conv_row {w : World} {A : Option Addr} {n c : Nat} {us : List UInt8} (h : Row w A n c 1 (bytesV us)) {src e dst : TypeId} (hs : P.underlying src = some (.slice e)) (he : P.underlying e = some (.int .u8)) (hd : P.underlying dst = some .string) :
    (convert src dst (.slice A n c)).run P w = .ok (.string (strOf us)) w := by
  have hl : us.length = n := by have := h.len; rw [bytesV_len] at this; simpa using this
  rcases hA : A with _ | ad
  · obtain ⟨rfl, rfl⟩ := h.nil hA
    have : us = [] := List.eq_nil_of_length_eq_zero hl
    subst this
    exact run_convert_bytes_nil w src e hs he 0 0 dst hd
  · rcases Nat.eq_zero_or_pos n with h0 | h0
    · subst h0
      have : us = [] := List.eq_nil_of_length_eq_zero hl
      subst this
      simp [convert, run_underlying hs, run_underlying he, run_underlying hd, Conv.bytesToString, loadCells, loadCellsFrom]
      rfl
    obtain ⟨b, off, rfl, hc⟩ := h.some_ ad hA (by have := h.cap; omega)
    have hsz := strOf_size us
    have h := Lib.run_convert_whole (P := P) w src e dst hs he hd b off (strOf us) (fun i hi => by
      have h1 : i < us.length := by omega
      have h2 : (strOf us)[i]'hi = us.getD i 0 := by simp [strOf, ByteArray.getElem_eq_getElem_data, h1]
      have h3 : bv (us.getD i 0) = .int .u8 (((strOf us)[i]'hi).toNat : Int) := by unfold bv w8; exact congrArg (fun x : UInt8 => Value.int .u8 (x.toNat : Int)) h2.symm
      rw [hc i (by omega), bytesV_get _ _ h1]
      exact congrArg some h3) c
    rw [hsz, hl] at h
    exact h
end
end Go.Proofs.YtnjilfdmplbalaaGreatDoor
