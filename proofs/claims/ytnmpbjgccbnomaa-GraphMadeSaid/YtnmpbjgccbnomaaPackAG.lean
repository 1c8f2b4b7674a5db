import Derived.Test.YtnmpbjgccbnomaaGWithP
import Derived.Lib.AppendZerosOnto
import Derived.Lib.LazyBuf
import Derived.Lib.Overlaps
import Derived.Test.YtnmpbjgccbnomaaPackAB
import Derived.Lib.Bytealg
import Derived.Lib.Small
import Derived.Test.YtnmpbjgccbnomaaPackAD
import Derived.Test.YtnmpbjgccbnomaaPackAC
/- Slices of structs in a block that is known whole: append in place, append of zeros, clear, copy, store. Plain facts over any program. -/
namespace Go.Proofs.Ytnmpbjgccbnomaa
open Go.RowKit Go
section
variable {P : Program} {ops : Array Oper} {rest : List Oper} {o : Oper} {a : Act} {Q : Exit → Act → World → Prop}
theorem But.row (g : Nat) (w : World) (cs : Array Value) : But g w (w.setRow g cs) := ⟨rfl, rfl, rfl, (below_setRow (Below.refl g w) (Nat.le_refl _) cs).size, fun _ _ hne => setRow_other _ _ _ _ hne⟩
theorem size_of_info {e : TypeId} {size : Nat} (h : (P.info? e).map (·.size) = some size) : ∃ i0, P.info? e = some i0 ∧ i0.size = size := by
  cases hq : P.info? e with
  | none => rw [hq] at h; cases h
  | some i => rw [hq] at h; exact ⟨i, rfl, by simpa using h⟩
/-- append where there is room: in place. -/
theorem wpList_app_room (w : World) (hgd : o.guard = none) (s x : Operand) (t tx e : TypeId) (ho : o.op = .call { callee := .builtin .append, args := #[s, x], argTypes := #[t, tx] })
    (ht : P.underlying t = some (.slice e)) {size : Nat} (hsz : (P.info? e).map (·.size) = some size) (g n cap : Nat) (cur : List Value) (hg : w.heap[g]? = some (.cells cur.toArray e (0, 0))) (hcap : cur.length = cap * size)
    (hs : a.eval s = .slice (some ⟨g, 0, none⟩) n cap) (X : Value) (m : Nat) (news : List Value) (hsrc : Src P size tx X m news w) (hx : a.eval x = X) (hroom : n + m ≤ cap)
    (h : ∀ w', w'.heap[g]? = some (.cells (cur.take (n * size) ++ news ++ cur.drop ((n + m) * size)).toArray e (0, 0)) → But g w w' → wpList P ops Q rest (a.put o.dst (.slice (some ⟨g, 0, none⟩) (n + m) cap)) w') : wpList P ops Q (o :: rest) a w := by
  obtain ⟨i0, hi0, rfl⟩ := size_of_info hsz
  have hl := hsrc.newsLen
  have hfit : n * i0.size + news.length ≤ cur.toArray.size := by rw [hl, List.size_toArray, hcap, ← Nat.add_mul]; exact Nat.mul_le_mul_right _ hroom
  have hst := run_storeCells_at P g (n * i0.size) e news 0 cur.toArray w hg (by simpa using hfit) hsrc.one
  simp only [Nat.add_zero] at hst
  have hr : (Builtin.append_ #[t, tx] o.type #[.slice (some ⟨g, 0, none⟩) n cap, X]).run P w = .ok (.slice (some ⟨g, 0, none⟩) (n + m) cap) (w.setRow g (cur.take (n * i0.size) ++ news ++ cur.drop ((n + m) * i0.size)).toArray) := by
    rw [show (n + m) * i0.size = n * i0.size + news.length by rw [hl, Nat.add_mul]]
    rcases hsrc.kind with ⟨e', hk⟩ | hk <;> simp [Builtin.append_, run_underlying ht, run_underlying hk, sizeOf, typeInfo, hi0, hsrc.len, hroom, hsrc.cells, Addr.add_lit, hst]
  refine wpList_plain hgd fun K hK => ?_
  unfold Oper.wp execOp
  simp only [ho, resolve, invoke, builtin, Sem.run_bind, Sem.run_pure, Result.andThen_ok, List.map_toArray, List.map_cons, List.map_nil, hs, hx, hr]
  exact hK _ _ (h _ (setRow_heap w g _ _ e _ hg) (But.row _ _ _))
/-- append of k zeros where there is no room: a new block. -/
theorem wpList_app_zeros (w : World) (hgd : o.guard = none) (s x : Operand) (t tx e : TypeId) (ho : o.op = .call { callee := .builtin .append, args := #[s, x], argTypes := #[t, tx] })
    (ht : P.underlying t = some (.slice e)) (htx : P.underlying tx = some (.int .i64)) {z : Value} {size bytes : Nat} (hi : (P.info? e).map (fun i => (i.zero, i.size, i.bytes)) = some (some z, size, bytes)) (hzs : z.cells.size = size) (h0 : 0 < size)
    (A : Option Addr) (n c : Nat) (cs : List Value) (hrow : Row w A n c size cs) (hs : a.eval s = .slice A n c) (k : Nat) {kk : Int} (hx : a.eval x = .int .i64 kk) (hkk : kk = (k : Int)) (hk : 0 < k) (hroom : c < n + k) (h63 : n + k ≤ maxLen) (hbytes : (n + k) * bytes ≤ 140737488355328)
    (h : ∀ w' (cap : Nat) (tail : List Value), n + k ≤ cap → cap ≤ maxLen → w'.heap[w.heap.size]? = some (.cells (cs ++ tail).toArray e (0, 0)) → (cs ++ tail).length = cap * size → Below w.heap.size w w' → wpList P ops Q rest (a.put o.dst (.slice (some ⟨w.heap.size, 0, none⟩) (n + k) cap)) w') : wpList P ops Q (o :: rest) a w := by
  obtain ⟨i0, hi0, hz0, hz1, hz2⟩ := info_parts hi
  subst hkk
  have hm : n + k ≤ 9223372036854775807 := by simp only [maxLen] at h63; omega
  have hold : (Builtin.firstCells i0.size n (.slice A n c)).run P w.drew = .ok cs.toArray w.drew := by
    rw [hz1]
    rcases hA : A with _ | ad
    · obtain ⟨rfl, rfl⟩ := hrow.nil hA
      have : cs = [] := List.eq_nil_of_length_eq_zero (by simpa using hrow.len)
      subst this
      exact run_firstCells_none _ _ _ _ _
    · refine run_firstCells_some w.drew size n ad n c cs hrow.len fun j u hj => ?_
      have hj2 : j < cs.length := (List.getElem?_eq_some_iff.1 hj).1
      have h2 := hrow.len
      have hn : 0 < n := by
        rcases Nat.eq_zero_or_pos n with e1 | e1
        · rw [e1, Nat.zero_mul] at h2; omega
        · exact e1
      obtain ⟨b, off, hA', hc⟩ := hrow.form hn
      rw [hA] at hA'; injection hA' with hA'; subst hA'
      rw [Addr.add_lit]
      exact (hc j (by omega)).trans hj
  have hr := Lib.run_append_grow_zeros (P := P) w t tx o.type e i0 z .i64 .i64 ht htx hi0 hz0 A n c cs hold k hk (by omega) hroom (by omega) (by rw [hz2]; have : k * bytes ≤ (n + k) * bytes := Nat.mul_le_mul_right _ (by omega); omega) (by rw [hz2]; exact growslice_fits hroom hbytes)
  have hge := grownCap_ge w (n + k) c e
  have hcm := grownCap_le_maxLen w (n + k) c e h63
  refine wpList_plain hgd fun K hK => ?_
  unfold Oper.wp execOp
  simp only [ho, resolve, invoke, builtin, Sem.run_bind, Sem.run_pure, Result.andThen_ok, List.map_toArray, List.map_cons, List.map_nil, hs, hx, hr]
  refine hK _ _ (h _ _ (Builtin.zeroCells z.cells k ++ Builtin.zeroCells z.cells (grownCap w (n + k) c e - (n + k))).toList hge hcm ?_ ?_ ((Below.refl _ _).drew.alloc (Nat.le_refl _) _))
  · have h1 := heap_alloc_new w.drew (.cells (cs.toArray ++ Builtin.zeroCells z.cells k ++ Builtin.zeroCells z.cells (grownCap w (n + k) c e - (n + k))) e)
    refine h1.trans ?_
    simp
  · have h2 := hrow.len
    simp only [List.length_append, Array.toList_append, Array.length_toList, size_zeroCells, hzs, h2, ← Nat.add_mul]
    congr 1
    omega
/-- clear of a part of a block. -/
theorem run_clear_row (w : World) (t e : TypeId) (ht : P.underlying t = some (.slice e)) {z : Value} {size : Nat} (hv : ∀ w, (zeroValue e).run P w = .ok z w) (hzs : z.cells.size = size) (hz1 : ∀ n, ∀ u ∈ (Builtin.zeroCells z.cells n).toList, u.oneCell' = true) (g q n c : Nat) (cur : List Value) (hg : w.heap[g]? = some (.cells cur.toArray e (0, 0)))
    (A : Option Addr) (hA : 0 < n → A = some ⟨g, q * size, none⟩) (hfit : (q + n) * size ≤ cur.length) :
    ∃ w' zs, zs.length = n * size ∧ (∀ ty, (Builtin.clear_ #[t] ty #[.slice A n c]).run P w = .ok (.tuple #[]) w') ∧ w'.heap[g]? = some (.cells (cur.take (q * size) ++ zs ++ cur.drop ((q + n) * size)).toArray e (0, 0)) ∧ But g w w' := by
  rcases n with _ | n
  · refine ⟨w, [], by simp, fun ty => ?_, ?_, But.refl _ _⟩
    · rcases A with _ | ad <;> simp [Builtin.clear_, run_underlying ht]
    · rw [List.append_nil, Nat.add_zero, List.take_append_drop]; exact hg
  · have hzl : (Builtin.zeroCells z.cells (n + 1)).toList.length = (n + 1) * size := by rw [Array.length_toList, size_zeroCells, hzs]
    have hfit2 : q * size + (Builtin.zeroCells z.cells (n + 1)).toList.length ≤ cur.toArray.size := by rw [hzl, List.size_toArray, ← Nat.add_mul]; exact hfit
    have hst := run_storeCells_at P g (q * size) e (Builtin.zeroCells z.cells (n + 1)).toList 0 cur.toArray w hg (by simpa using hfit2) (hz1 _)
    simp only [Nat.add_zero] at hst
    refine ⟨_, (Builtin.zeroCells z.cells (n + 1)).toList, hzl, fun ty => ?_, setRow_heap w g _ _ e _ hg, But.row _ _ _⟩
    rw [hA (by omega), show (q + (n + 1)) * size = q * size + (Builtin.zeroCells z.cells (n + 1)).toList.length by rw [hzl, Nat.add_mul]]
    simp [Builtin.clear_, run_underlying ht, hv, hst]
/-- copy into a part of a block. -/
theorem run_copy_rowE (w : World) (t tx e : TypeId) (ht : P.underlying t = some (.slice e)) {size : Nat} (hsz : (P.info? e).map (·.size) = some size) (g q dn dc : Nat) (cur : List Value) (hg : w.heap[g]? = some (.cells cur.toArray e (0, 0)))
    (A : Option Addr) (k c c' : Nat) (cs : List Value) (m : Nat) (hm : m = min k dn) (hrow : Row w A m c' size cs) (h1 : ∀ u ∈ cs, u.oneCell' = true) (hfit : (q + m) * size ≤ cur.length) :
    ∃ w', (∀ ty, (Builtin.copy_ #[t, tx] ty #[.slice (some ⟨g, q * size, none⟩) dn dc, .slice A k c]).run P w = .ok (goInt m) w') ∧ w'.heap[g]? = some (.cells (cur.take (q * size) ++ cs ++ cur.drop ((q + m) * size)).toArray e (0, 0)) ∧ But g w w' := by
  obtain ⟨i0, hi0, rfl⟩ := size_of_info hsz
  have hml : cs.length = m * i0.size := hrow.len
  have hfc : (Builtin.firstCells i0.size m (.slice A k c)).run P w = .ok cs.toArray w := by
    rcases hA : A with _ | ad
    · obtain ⟨rfl, rfl⟩ := hrow.nil hA
      have : cs = [] := List.eq_nil_of_length_eq_zero (by simpa using hrow.len)
      subst this
      exact run_firstCells_none _ _ _ _ _
    · refine run_firstCells_some w i0.size m ad k c _ hml fun j u hj => ?_
      have hj2 : j < m * i0.size := by rw [← hml]; exact (List.getElem?_eq_some_iff.1 hj).1
      have hn : 0 < m := by
        rcases Nat.eq_zero_or_pos m with e1 | e1
        · rw [e1, Nat.zero_mul] at hj2; omega
        · omega
      obtain ⟨b, off, hA', hc⟩ := hrow.form hn
      rw [hA] at hA'; injection hA' with hA'; subst hA'
      rw [Addr.add_lit]
      exact (hc j hj2).trans hj
  have hfit2 : q * i0.size + cs.length ≤ cur.toArray.size := by rw [hml, List.size_toArray, ← Nat.add_mul]; exact hfit
  have hst := run_storeCells_at P g (q * i0.size) e cs 0 cur.toArray w hg (by simpa using hfit2) h1
  simp only [Nat.add_zero] at hst
  refine ⟨_, fun ty => ?_, setRow_heap w g _ (cur.take (q * i0.size) ++ cs ++ cur.drop ((q + m) * i0.size)).toArray e _ hg, But.row _ _ _⟩
  rw [show (q + m) * i0.size = q * i0.size + cs.length by rw [hml, Nat.add_mul]]
  simp [Builtin.copy_, run_underlying ht, sizeOf, typeInfo, hi0, Builtin.lenOf, show Nat.min k dn = m from hm.symm, hfc, hst]
/-- A whole struct stored at a place of a block. -/
theorem wpList_store_partE (w : World) (hgd : o.guard = none) (ty : TypeId) (x y : Operand) (ho : o.op = .store ty x y) (g q off : Nat) (e : TypeId) (cur : List Value) (hg : w.heap[g]? = some (.cells cur.toArray e (0, 0))) (cells : Array Value)
    (hx : a.eval x = .pointer (some ⟨g, off, none⟩)) (hoff : off = q) (hy : a.eval y = .agg cells) (hi : (P.info? ty).map (·.size) = some cells.size) (h1 : ∀ u ∈ cells.toList, u.oneCell' = true) (hfit : q + cells.size ≤ cur.length)
    (h : ∀ w', w'.heap[g]? = some (.cells (cur.take q ++ cells.toList ++ cur.drop (q + cells.size)).toArray e (0, 0)) → But g w w' → w'.heap.size = w.heap.size → wpList P ops Q rest (a.put o.dst undef) w') : wpList P ops Q (o :: rest) a w := by
  subst hoff
  obtain ⟨i0, hi0, hz0⟩ := size_of_info hi
  have hst := run_storeCells_at P g off e cells.toList 0 cur.toArray w hg (by simpa using hfit) h1
  simp only [Nat.add_zero, Array.length_toList] at hst
  have hr : (storeVar ty ⟨g, off, none⟩ (.agg cells)).run P w = .ok () (w.setRow g (cur.take off ++ cells.toList ++ cur.drop (off + cells.size)).toArray) := by
    simp [storeVar, sizeOf, typeInfo, hi0, Value.cells, hz0, hst]
  refine wpList_plain hgd fun K hK => ?_
  unfold Oper.wp execOp
  simp only [ho, hx, hy, Instr.storeAt, Instr.sureAddr, Sem.run_bind, Sem.run_pure, Result.andThen_ok, hr]
  exact hK _ _ (h _ (setRow_heap w g _ _ e _ hg) (But.row _ _ _) (by simp [World.setRow]))
end
end Go.Proofs.Ytnmpbjgccbnomaa
/- Blocks of edges; the walks of slices.Clone and slices.Delete. -/
namespace Go.Proofs.Ytnmpbjgccbnomaa
open Go.RowKit
/-- A block of edges: a list, and whatever stands behind it. -/
structure EBlk (w : World) (B g n cap : Nat) (l : List Edg) (T : List Value) : Prop where
  lo : B ≤ g
  at_ : w.heap[g]? = some (.cells (rowC Edg.cells l ++ T).toArray 27 (0, 0))
  len : l.length = n
  room : n ≤ cap
  mx : cap ≤ maxLen
  size : (rowC Edg.cells l ++ T).length = cap * 3
theorem eblk_of_own {w : World} {B : Nat} {v : Value} {n : Nat} {l : List Edg} (ho : w.ownsRow B 27 3 v n (rowC Edg.cells l)) (h0 : 0 < n) : ∃ g cap T, v = .slice (some ⟨g, 0, none⟩) n cap ∧ EBlk w B g n cap l T := by
  obtain ⟨hlen, ⟨rfl, hz⟩ | ⟨g, cap, cur, rfl, hBg, hg, hnc, hcm, hcs, htk⟩⟩ := ho
  · omega
  · have hl : l.length = n := by
      rw [rowC_len Edg.len] at hlen
      exact Nat.eq_of_mul_eq_mul_right (by decide) hlen
    have hc : rowC Edg.cells l ++ cur.toList.drop (n * 3) = cur.toList := by rw [← htk, List.take_append_drop]
    refine ⟨g, cap, cur.toList.drop (n * 3), rfl, hBg, ?_, hl, hnc, hcm, ?_⟩
    · rw [hc]; simpa using hg
    · rw [hc]; simpa using hcs
theorem EBlk.own {w : World} {B g n cap : Nat} {l : List Edg} {T : List Value} (h : EBlk w B g n cap l T) : w.ownsRow B 27 3 (.slice (some ⟨g, 0, none⟩) n cap) n (rowC Edg.cells l) := by
  have hl : (rowC Edg.cells l).length = n * 3 := by rw [rowC_len Edg.len, h.len]
  refine ⟨hl, .inr ⟨g, cap, _, rfl, h.lo, h.at_, h.room, h.mx, ?_, ?_⟩⟩
  · rw [List.size_toArray]; exact h.size
  · rw [← hl]; exact List.take_left
theorem EBlk.row {w : World} {B g n cap : Nat} {l : List Edg} {T : List Value} (h : EBlk w B g n cap l T) : ERow w (some ⟨g, 0, none⟩) n cap l := by
  obtain ⟨A, c, hv, hr⟩ := Row.of_own h.own
  injection hv with e1 _ e2
  subst e1 e2
  exact hr
theorem EBlk.lt {w : World} {B g n cap : Nat} {l : List Edg} {T : List Value} (h : EBlk w B g n cap l T) : g < w.heap.size := (Array.getElem?_eq_some_iff.1 h.at_).1
theorem EBlk.later {w w' : World} {B g n cap : Nat} {l : List Edg} {T : List Value} (h : EBlk w B g n cap l T) (hb : Below w.heap.size w w') : EBlk w' B g n cap l T := ⟨h.lo, (hb.block _ h.lt).trans h.at_, h.len, h.room, h.mx, h.size⟩
/-- The cells of a block that holds edges, cut. -/
theorem ecut {l : List Edg} {T : List Value} {i : Nat} (hi : i ≤ l.length) : (rowC Edg.cells l ++ T).take (i * 3) = rowC Edg.cells (l.take i) := by
  have h1 : (rowC Edg.cells l).length = l.length * 3 := rowC_len Edg.len l
  rw [List.take_append_of_le_length (by rw [h1]; omega), rowC_take Edg.len l i hi]
theorem ecut_drop {l : List Edg} {T : List Value} {i : Nat} (hi : i ≤ l.length) : (rowC Edg.cells l ++ T).drop (i * 3) = rowC Edg.cells (l.drop i) ++ T := by
  have h1 : (rowC Edg.cells l).length = l.length * 3 := rowC_len Edg.len l
  rw [List.drop_append_of_le_length (by rw [h1]; omega), rowC_drop Edg.len l i]
section
variable {P : Program}
/-- 's[i:j]' and 's[i:j:k]' where there is room. -/
theorem run_slice_mid {t e : TypeId} (ht : P.underlying t = some (.slice e)) {sz : Nat} (hz : (P.info? e).map (·.size) = some sz) {g n c i j : Nat} {x y : Int} (hx : x = (i : Int)) (hy : y = (j : Int)) (hij : i ≤ j) (hjc : j ≤ c) (hic : i < c) (k1 k2 : IntKind) (w : World) :
    (Instr.slice t (.slice (some ⟨g, 0, none⟩) n c) (some (.int k1 x)) (some (.int k2 y)) none).run P w = .ok (.slice (some ⟨g, i * sz, none⟩) (j - i) (c - i)) w := by
  subst hx hy
  obtain ⟨i0, hi0, rfl⟩ := size_of_info hz
  have h3 : ¬ c = i := by omega
  have h4 : (⟨g, 0, none⟩ : Addr).add (i * i0.size) = ⟨g, i * i0.size, none⟩ := by rw [Addr.add_lit, Nat.zero_add]
  simp [Instr.slice, run_underlying ht, Instr.sliceBounds, Instr.sliceBound, asIntOf, hjc, hij, h3, sizeOf, typeInfo, hi0, h4]
theorem run_slice_max {t e : TypeId} (ht : P.underlying t = some (.slice e)) {sz : Nat} (hz : (P.info? e).map (·.size) = some sz) {g n c i j k : Nat} {x y z : Int} (hx : x = (i : Int)) (hy : y = (j : Int)) (hz' : z = (k : Int)) (hij : i ≤ j) (hjk : j ≤ k) (hkc : k ≤ c) (k1 k2 k3 : IntKind) :
    ∃ v, ∀ w : World, (Instr.slice t (.slice (some ⟨g, 0, none⟩) n c) (some (.int k1 x)) (some (.int k2 y)) (some (.int k3 z))).run P w = .ok v w := by
  subst hx hy hz'
  obtain ⟨i0, hi0, rfl⟩ := size_of_info hz
  refine ⟨.slice (if k = i then some ⟨g, 0, none⟩ else some ((⟨g, 0, none⟩ : Addr).add (i * i0.size))) (j - i) (k - i), fun w => ?_⟩
  simp [Instr.slice, run_underlying ht, Instr.sliceBounds, Instr.sliceBound, asIntOf, hkc, hjk, hij, sizeOf, typeInfo, hi0]
theorem run_slice_off {t e : TypeId} (ht : P.underlying t = some (.slice e)) {sz : Nat} (hz : (P.info? e).map (·.size) = some sz) {g n c i : Nat} {x : Int} (hx : x = (i : Int)) (hin : i ≤ n) (hic : i < c) (k1 : IntKind) (w : World) :
    (Instr.slice t (.slice (some ⟨g, 0, none⟩) n c) (some (.int k1 x)) none none).run P w = .ok (.slice (some ⟨g, i * sz, none⟩) (n - i) (c - i)) w := by
  rw [run_slice_from ht hz hx hin k1 w]
  unfold dropA
  rw [if_neg (by omega), Option.map_some, Addr.add_lit, Nat.zero_add]
theorem run_slice_low {t e : TypeId} (ht : P.underlying t = some (.slice e)) {sz : Nat} (hz : (P.info? e).map (·.size) = some sz) {g n c i : Nat} {x : Int} (hx : x = (i : Int)) (hic : i ≤ c) (k1 : IntKind) (w : World) :
    (Instr.slice t (.slice (some ⟨g, 0, none⟩) n c) none (some (.int k1 x)) none).run P w = .ok (.slice (some ⟨g, 0, none⟩) i c) w := by
  subst hx
  obtain ⟨i0, hi0, rfl⟩ := size_of_info hz
  have h4 : (⟨g, 0, none⟩ : Addr).add 0 = ⟨g, 0, none⟩ := by rw [Addr.add_lit]
  simp [Instr.slice, run_underlying ht, Instr.sliceBounds, Instr.sliceBound, asIntOf, hic, sizeOf, typeInfo, hi0, h4]
end
theorem edg_zero (w : World) : (zeroValue 27).run Try.prog w = .ok (.agg #[.int .i64 0, .int .i64 0, .int .i64 0]) w := Try.zeroValue27 w
theorem edg_zeros (n : Nat) : ∀ u ∈ (Builtin.zeroCells (Value.agg #[.int .i64 0, .int .i64 0, .int .i64 0]).cells n).toList, u.oneCell' = true := by
  intro u hu
  simp only [Builtin.zeroCells, Value.cells, Array.toList_map, List.mem_map] at hu
  obtain ⟨i, -, rfl⟩ := hu
  have h3 : i % 3 < 3 := Nat.mod_lt _ (by decide)
  rcases (by omega : i % 3 = 0 ∨ i % 3 = 1 ∨ i % 3 = 2) with h4 | h4 | h4 <;> simp [h4, Value.oneCell']
theorem cloneEd_nil (w : World) : Calls Try.prog 36 #[.slice none 0 0] w fun e w' => e = .returned (.slice none 0 0) ∧ w' = w := by
  have en := fun w a n c => Lib.run_eql_slice_nil (P := Try.prog) w 22 27 a n c 0 0 Try.underlying22
  go_enter Try.func36, Try.ntmps36
  go_wp2
  go_ret
  exact ⟨rfl, rfl⟩
set_option maxRecDepth 100000 in
set_option maxHeartbeats 4000000 in
theorem cloneEd_some (ad : Addr) (n c : Nat) (l : List Edg) (w : World) (hl : ERow w (some ad) n c l) (hn : n ≤ 100000) :
    Calls Try.prog 36 #[.slice (some ad) n c] w fun e w' => ∃ v, e = .returned v ∧ w'.ownsRow w.heap.size 27 3 v l.length (rowC Edg.cells l) ∧ Below w.heap.size w w' := by
  have HL := Lib.hid hl; have HLN : Hid (l.length = n) := Lib.hid (ERow.len hl)
  clear hl
  have en := fun w a n c => Lib.run_eql_slice_nil (P := Try.prog) w 22 27 a n c 0 0 Try.underlying22
  go_enter Try.func36, Try.ntmps36
  have HO : Hid ((w.alloc (.cells #[] 27)).ownsRow w.heap.size 27 3 (.slice (some ⟨w.heap.size, 0, none⟩) 0 0) 0 []) := Lib.hid ⟨rfl, .inr ⟨w.heap.size, 0, #[], rfl, Nat.le_refl _, heap_alloc_new _ _, Nat.le_refl _, Nat.zero_le _, rfl, rfl⟩⟩
  have HN := Lib.hid (one_new w (.cells #[] 27))
  have HL2 := Lib.hid (GRow.later HL.out HN.out)
  have HZ := Lib.hid HN.out.size
  obtain ⟨x1, hx1⟩ : ∃ x1, w.alloc (.cells #[] 27) = x1 := ⟨_, rfl⟩
  have HX1 := Lib.hid hx1
  rw [hx1] at HO HN HL2 HZ
  clear hx1
  go_wp2_with (at_builtin; rw [HX1.out]; go_must (refine wpList_app x1 rfl (.tmp 5) (.tmp 6) 22 22 27 rfl w.heap.size Try.underlying22 edg_info rfl _ 0 [] HO.out rfl _ n (rowC Edg.cells l) (Row.src HL2.out Try.underlying22 (rowC_ones Edg.ones l)) rfl (by unfold maxLen; omega) (by omega) HZ.out ?_); intro v1 z1 ho hb; rw [Nat.zero_add, List.nil_append, ← HLN.out] at ho; have HO2 := Lib.hid ho; have HU := Lib.hid (HN.out.trans hb); clear ho hb)
  go_ret
  exact ⟨_, rfl, HO2.out, HU.out⟩
theorem cloneEd_any (A : Option Addr) (n c : Nat) (l : List Edg) (w : World) (hl : ERow w A n c l) (hn : n ≤ 100000) :
    Calls Try.prog 36 #[.slice A n c] w fun e w' => ∃ v, e = .returned v ∧ w'.ownsRow w.heap.size 27 3 v l.length (rowC Edg.cells l) ∧ Below w.heap.size w w' := by
  cases A with
  | some ad => exact cloneEd_some ad n c l w hl hn
  | none =>
    obtain ⟨rfl, rfl⟩ := Row.nil hl rfl
    have h0 : l = [] := List.eq_nil_of_length_eq_zero (ERow.len hl)
    subst h0
    exact (cloneEd_nil w).mono fun e w' ⟨h1, h2⟩ => ⟨_, h1, by rw [h2]; exact World.ownsRow_nil _ _ _ _, by rw [h2]; exact Below.refl _ _⟩
set_option maxRecDepth 100000 in
set_option maxHeartbeats 4000000 in
theorem deleteEd_any (B g n cap i j : Nat) (l : List Edg) (T : List Value) (w : World) (ho : EBlk w B g n cap l T) (hB : B ≤ w.heap.size) (hij : i < j) (hj : j ≤ n) :
    Calls Try.prog 44 #[.slice (some ⟨g, 0, none⟩) n cap, .int .i64 i, .int .i64 j] w fun e w' => ∃ v, e = .returned v ∧ w'.ownsRow B 27 3 v (l.take i ++ l.drop j).length (rowC Edg.cells (l.take i ++ l.drop j)) ∧ Below B w w' := by
  have HO := Lib.hid ho
  have hnc := ho.room
  have hln := ho.len
  have HSRC : Hid (Src Try.prog 3 22 (.slice (dropA (some ⟨g, 0, none⟩) cap j 3) (n - j) (cap - j)) (n - j) (rowC Edg.cells (l.drop j)) w.drew) := Lib.hid (Row.src (Row.later (GRow.drop Edg.len ho.row j hj) (Later.drew w)) Try.underlying22 (rowC_ones Edg.ones _))
  have HLOW := Lib.hid ho.lo
  have HMX := Lib.hid ho.mx
  have HA : Hid (w.drew.heap[g]? = some (.cells (rowC Edg.cells l ++ T).toArray 27 (0, 0))) := Lib.hid ho.at_
  have HSZ : Hid ((rowC Edg.cells l ++ T).length = cap * 3) := Lib.hid ho.size
  clear ho
  have hne : ((i : Int) == (j : Int)) = false := beq_eq_false_iff_ne.2 (by omega)
  obtain ⟨v9, hv9⟩ := run_slice_max (P := Try.prog) (t := 22) Try.underlying22 edg_size (g := g) (n := n) (c := cap) (i := i) (j := j) (k := n) rfl rfl rfl (Nat.le_of_lt hij) hj hnc .i64 .i64 .i64
  go_enter Try.func44, Try.ntmps44
  go_wp2_with fail
  clear hne hv9
  refine wp_region_grow (by kernel_rfl) (Below B) (Below.refl B) (fun _ _ _ => Below.trans) [7] [([0, 1, 2, 3, 4, 5], 6)] (by kernel_rfl) (by kernel_rfl) (by kernel_rfl) ?_
  simp only [List.map_cons, List.map_nil, pick, List.getD_cons_zero, List.getD_cons_succ]
  have hs1 := fun w' => run_slice_low (P := Try.prog) (t := 22) Try.underlying22 edg_size (g := g) (n := n) (c := cap) (i := i) rfl (by omega) .i64 w'
  have hs2 := fun w' => run_slice_from (P := Try.prog) (t := 22) Try.underlying22 edg_size (A := some ⟨g, 0, none⟩) (n := n) (c := cap) (k := j) rfl hj .i64 w'
  generalize dropA (some ⟨g, 0, none⟩) cap j 3 = AD at *
  have HBD : Hid (Below B w w.drew) := Lib.hid (Below.refl _ _).drew
  have HBS : Hid (B ≤ w.drew.heap.size) := Lib.hid hB
  generalize w.drew = z0 at *
  refine wpGrow_cons ?_
  repeat (go_big_quiet_step (fail))
  refine wpQuiet_nil ?_
  clear hs1 hs2
  have HD : Hid ((rowC Edg.cells l ++ T).take (i * 3) ++ rowC Edg.cells (l.drop j) ++ (rowC Edg.cells l ++ T).drop ((i + (n - j)) * 3) = rowC Edg.cells (l.take i ++ l.drop j) ++ (rowC Edg.cells l ++ T).drop ((i + (n - j)) * 3)) := Lib.hid (by rw [ecut (by omega), ← rowC_app])
  have HDL : Hid ((l.take i ++ l.drop j).length = i + (n - j)) := Lib.hid (by rw [List.length_append, List.length_take, List.length_drop, hln]; omega)
  go_wp2_with (at_builtin; go_must (refine wpList_app_room z0 rfl (.tmp 22) (.tmp 25) 22 22 27 rfl Try.underlying22 (size := 3) edg_size g i cap (rowC Edg.cells l ++ T) HA.out HSZ.out rfl _ (n - j) (rowC Edg.cells (l.drop j)) HSRC.out rfl (by omega) ?_); intro w2 hg2 hb2; rw [HD.out] at hg2; have HG2 := Lib.hid hg2; have HB2 : Hid (Below B z0 w2) := Lib.hid (hb2.below HLOW.out HBS.out); clear hg2 hb2)
  refine pieceEnd_normal ⟨HB2.out, ?_⟩
  refine wpGrow_nil ?_
  repeat (go_big_quiet_step (fail))
  refine wpQuiet_nil ?_
  have HXL : Hid (((rowC Edg.cells l ++ T).drop ((i + (n - j)) * 3)).length = cap * 3 - (i + (n - j)) * 3) := Lib.hid (by rw [List.length_drop, HSZ.out])
  generalize (rowC Edg.cells l ++ T).drop ((i + (n - j)) * 3) = X at *
  obtain ⟨D, hD⟩ : ∃ D, l.take i ++ l.drop j = D := ⟨_, rfl⟩
  have HDD := Lib.hid hD
  rw [hD] at HDL HD HG2
  clear hD
  have hqn : i + (n - j) < n := by omega
  generalize i + (n - j) = q at *
  have hs3 := fun w' => run_slice_mid (P := Try.prog) (t := 22) Try.underlying22 edg_size (g := g) (n := q) (c := cap) (i := q) (j := n) rfl rfl (Nat.le_of_lt hqn) hnc (by omega) .i64 .i64 w'
  have hfit : (q + (n - q)) * 3 ≤ (rowC Edg.cells D ++ X).length := by
    have h1 := HDL.out; have h2 := HXL.out
    rw [List.length_append, rowC_len Edg.len, h1, h2]
    omega
  obtain ⟨w3, zs, hz, hcl, hg3, hb3⟩ := run_clear_row (P := Try.prog) w2 22 27 Try.underlying22 (size := 3) edg_zero rfl edg_zeros g q (n - q) (cap - q) (rowC Edg.cells D ++ X) HG2.out (some ⟨g, q * 3, none⟩) (fun _ => rfl) hfit
  rw [ecut (by rw [HDL.out]; exact Nat.le_refl _)] at hg3
  have HZ := Lib.hid hz; have HG3 := Lib.hid hg3; have HB3 := Lib.hid hb3
  clear hz hg3 hb3
  go_wp2_with fail
  go_ret
  have h1 := HDL.out; have h2 := HXL.out; have h3 := HZ.out
  have hd : D.take q = D := List.take_of_length_le (by omega)
  have hg3 := HG3.out
  rw [hd, List.append_assoc] at hg3
  have he : EBlk w3 B g q cap D (zs ++ (rowC Edg.cells D ++ X).drop ((q + (n - q)) * 3)) := ⟨HLOW.out, hg3, h1, by omega, HMX.out, by
    rw [List.length_append, List.length_append, List.length_drop, List.length_append, rowC_len Edg.len, h1, h2, h3]
    omega⟩
  rw [HDD.out, h1]
  exact ⟨_, rfl, he.own, (HBD.out.trans HB2.out).trans (HB3.out.below HLOW.out (Nat.le_trans HBS.out HB2.out.size))⟩
end Go.Proofs.Ytnmpbjgccbnomaa
/- The walk of slices.Insert over edges. -/
namespace Go.Proofs.Ytnmpbjgccbnomaa
open Go.RowKit
theorem one_row3 {w : World} {h : Nat} {e : Edg} (hh : w.heap[h]? = some (.cells e.arr 27 (0, 0))) : Row w (some ⟨h, 0, none⟩) 1 1 3 e.cells := by
  have h1 := Row.of_block hh (n := 1) (sz := 3) rfl
  rwa [Edg.list] at h1
theorem rowC_one (e : Edg) (l : List Edg) : rowC Edg.cells (e :: l) = e.cells ++ rowC Edg.cells l := by simp [rowC]
/-- The row from i on. -/
theorem EBlk.tail {w : World} {B g n cap : Nat} {l : List Edg} {T : List Value} (h : EBlk w B g n cap l T) (i : Nat) (hi : i < n) : Row w (some ⟨g, i * 3, none⟩) (n - i) (cap - i) 3 (rowC Edg.cells (l.drop i)) := by
  have h1 := GRow.drop Edg.len h.row i (Nat.le_of_lt hi)
  have h2 := h.room
  rwa [show dropA (some ⟨g, 0, none⟩) cap i 3 = some ⟨g, i * 3, none⟩ by unfold dropA; rw [if_neg (by omega), Option.map_some, Addr.add_lit, Nat.zero_add]] at h1
set_option maxRecDepth 100000 in
set_option maxHeartbeats 4000000 in
theorem insertEd_any (B : Nat) (v : Value) (n i h : Nat) (l : List Edg) (e : Edg) (w : World) (ho : w.ownsRow B 27 3 v n (rowC Edg.cells l)) (hB : B ≤ w.heap.size) (hi : i ≤ n) (hn : n ≤ 100000) (hh : w.heap[h]? = some (.cells e.arr 27 (0, 0))) (hne : ∀ g, v.ownBlock = some g → g ≠ h) :
    Calls Try.prog 43 #[v, .int .i64 i, .slice (some ⟨h, 0, none⟩) 1 1] w fun x w' => ∃ v2, x = .returned v2 ∧ w'.ownsRow B 27 3 v2 (l.take i ++ e :: l.drop i).length (rowC Edg.cells (l.take i ++ e :: l.drop i)) ∧ Below B w w' := by
  have HO := Lib.hid ho
  have HH := Lib.hid hh
  obtain ⟨A, c, rfl, hr⟩ := Row.of_own ho
  have hln : l.length = n := ERow.len hr
  have hs0 := fun w' => run_slice_from (P := Try.prog) (t := 22) Try.underlying22 edg_size (A := A) (n := n) (c := c) (k := i) rfl hi .i64 w'
  by_cases hin : i = n
  · subst hin
    have b0 : ((i : Int) == (i : Int)) = true := by simp
    have HD : Hid (l.take i ++ e :: l.drop i = l ++ [e]) := Lib.hid (by rw [List.take_of_length_le (by omega), List.drop_eq_nil_of_le (by omega)])
    clear ho hr hh hne
    go_enter Try.func43, Try.ntmps43
    go_wp2_with (at_builtin; go_must (refine wpList_app w rfl (.tmp 23) (.tmp 24) 22 22 27 rfl B Try.underlying22 edg_info rfl _ i (rowC Edg.cells l) HO.out rfl _ 1 e.cells ((one_row3 HH.out).src Try.underlying22 e.ones) rfl (by unfold maxLen; omega) (by omega) hB ?_); intro v2 w2 ho2 hb2; have HO2 := Lib.hid ho2; have HB2 := Lib.hid hb2; clear ho2 hb2)
    go_ret
    rw [HD.out, List.length_append, hln, rowC_app, rowC_single]
    exact ⟨_, rfl, HO2.out, HB2.out⟩
  · have hlt : i < n := by omega
    have b0 : ((i : Int) == (n : Int)) = false := beq_eq_false_iff_ne.2 (by omega)
    obtain ⟨g, cap, T, hv, hek⟩ := eblk_of_own ho (by omega)
    injection hv with hv _ hv2
    subst hv hv2
    have hgh : g ≠ h := hne g rfl
    have HEK := Lib.hid hek
    have hnc := hek.room
    have HLO := Lib.hid hek.lo
    have HTL : Hid (T.length + n * 3 = c * 3) := Lib.hid (by have h := hek.size; rw [List.length_append, rowC_len Edg.len, hln] at h; omega)
    have HTI := Lib.hid (hek.tail i hlt)
    clear ho hr hh hne hin hek
    by_cases hroom : c < n + 1
    · have b1 : decide ((n : Int) + (1 : Int) > (c : Int)) = true := decide_eq_true (by omega)
      have b1' : decide ((c : Int) < (n : Int) + (1 : Int)) = true := b1
      have hs1 := fun w' => run_slice_low (P := Try.prog) (t := 22) Try.underlying22 edg_size (g := g) (n := n) (c := c) (i := i) rfl (by omega) .i64 w'
      have hrow := GRow.take Edg.len (by decide) HEK.out.row i hi
      have HRW := Lib.hid hrow
      clear hrow
      go_enter Try.func43, Try.ntmps43
      go_upto_region 10 with (at_builtin; go_must (refine wpList_app_zeros w rfl (.tmp 34) (.tmp 39) 22 3 27 rfl Try.underlying22 Try.underlying3 edg_info rfl (by decide) (some ⟨g, 0, none⟩) i c (rowC Edg.cells (l.take i)) HRW.out rfl (n + 1 - i) rfl (by omega) (by omega) (by omega) (by unfold maxLen; omega) (by omega) ?_); intro w2 cap2 tail hc1 hc2 hg2 hsz2 hb2; have HG2 := Lib.hid hg2; have HSZ2 := Lib.hid hsz2; have HB2 := Lib.hid hb2; have HC1 : Hid (n + 1 ≤ cap2) := Lib.hid (by omega); have HC2 := Lib.hid hc2; clear hc1 hc2 hg2 hsz2 hb2)
      have HEQ : Hid (i + (n + 1 - i) = n + 1) := Lib.hid (by omega)
      rw [HEQ.out]
      clear HEQ b1 b1' hs1 hs0
      have HH2 := Lib.hid ((HB2.out.block _ (Array.getElem?_eq_some_iff.1 HH.out).1).trans HH.out)
      have HTI2 := Lib.hid (HTI.out.later HB2.out)
      have HGN : Hid (g ≠ w.heap.size ∧ h ≠ w.heap.size) := Lib.hid ⟨Nat.ne_of_lt HEK.out.lt, Nat.ne_of_lt (Array.getElem?_eq_some_iff.1 HH.out).1⟩
      obtain ⟨g2, hgw⟩ : ∃ g2, w.heap.size = g2 := ⟨_, rfl⟩
      rw [hgw] at HG2 HGN ⊢
      have HGW := Lib.hid hgw
      clear hgw
      have hc1 := HC1.out
      have hs1 := fun w' => run_slice_off (P := Try.prog) (t := 22) Try.underlying22 edg_size (g := g2) (n := n + 1) (c := cap2) (i := i) rfl (by omega) (by omega) .i64 w'
      have hfit : (i + 1) * 3 ≤ (rowC Edg.cells (l.take i) ++ tail).length := by rw [HSZ2.out]; omega
      have htl : (l.take i).length = i := by rw [List.length_take]; omega
      have HTK : Hid ((rowC Edg.cells (l.take i) ++ tail).take (i * 3) = rowC Edg.cells (l.take i)) := Lib.hid (by rw [ecut (by omega), List.take_take, Nat.min_self])
      obtain ⟨w3, hcp, hg3, hb3⟩ := run_copy_rowE (P := Try.prog) w2 22 22 27 Try.underlying22 (size := 3) edg_size g2 i (n + 1 - i) (cap2 - i) (rowC Edg.cells (l.take i) ++ tail) HG2.out (some ⟨h, 0, none⟩) 1 1 1 e.cells 1 (by omega) (one_row3 HH2.out) e.ones hfit
      rw [HTK.out] at hg3
      have HG3 := Lib.hid hg3; have HB3 := Lib.hid hb3
      clear hg3 hb3
      go_upto_region 11 with fail
      clear hcp
      clear hs1 hfit
      have HL3 : Hid ((rowC Edg.cells (l.take i) ++ e.cells ++ (rowC Edg.cells (l.take i) ++ tail).drop ((i + 1) * 3)).length = cap2 * 3) := Lib.hid (by
        rw [List.length_append, List.length_append, List.length_drop, HSZ2.out, rowC_len Edg.len, htl, Edg.len]; omega)
      have HL4 : Hid ((rowC Edg.cells (l.take i) ++ e.cells).length = (i + 1) * 3) := Lib.hid (by rw [List.length_append, rowC_len Edg.len, htl, Edg.len]; omega)
      generalize (rowC Edg.cells (l.take i) ++ tail).drop ((i + 1) * 3) = X at *
      have HTI3 := Lib.hid (Row.keep HTI2.out (w' := w3) fun ad hA _ hlt => by
        injection hA with hA
        subst hA
        exact HB3.out.block g hlt HGN.out.1)
      have HB3' : Hid (Below w.heap.size w2 w3) := Lib.hid (HB3.out.below (by rw [HGW.out]; exact Nat.le_refl _) HB2.out.size)
      have HBW : Hid (Below w.heap.size w w3) := Lib.hid (HB2.out.trans HB3'.out)
      clear HB3 HB3' HTI2 HTI HG2 HH2
      refine wp_region_grow (by kernel_rfl) (Below w.heap.size) (Below.refl _) (fun _ _ _ => Below.trans) [] [([0, 1, 2, 3, 4, 5, 6, 7], 8)] (by kernel_rfl) (by kernel_rfl) (by kernel_rfl) ?_
      simp only [List.map_cons, List.map_nil, pick, List.getD_cons_zero, List.getD_cons_succ]
      have HG4 : Hid (w3.drew.heap[g2]? = _) := HG3
      have HTI4 := Lib.hid (HTI3.out.later (Later.drew w3))
      have HBW4 := Lib.hid HBW.out.drew
      clear HG3 HTI3 HBW
      generalize w3.drew = z0 at *
      have hsa := fun w' => run_slice_off (P := Try.prog) (t := 22) Try.underlying22 edg_size (g := g2) (n := n + 1) (c := cap2) (i := i + 1) (x := (i : Int) + 1) (by omega) (by omega) (by omega) .i64 w'
      have hsb := fun w' => run_slice_off (P := Try.prog) (t := 22) Try.underlying22 edg_size (g := g) (n := n) (c := c) (i := i) rfl hi (by omega) .i64 w'
      refine wpGrow_cons ?_
      repeat (go_big_quiet_step (fail))
      refine wpQuiet_nil ?_
      clear hsa hsb
      have hfit : (i + 1 + (n - i)) * 3 ≤ (rowC Edg.cells (l.take i) ++ e.cells ++ X).length := by rw [HL3.out]; omega
      have HTK2 : Hid ((rowC Edg.cells (l.take i) ++ e.cells ++ X).take ((i + 1) * 3) = rowC Edg.cells (l.take i) ++ e.cells) := Lib.hid (by rw [List.take_append_of_le_length (by rw [HL4.out]; exact Nat.le_refl _), List.take_of_length_le (by rw [HL4.out]; exact Nat.le_refl _)])
      obtain ⟨w5, hcp, hg5, hb5⟩ := run_copy_rowE (P := Try.prog) z0 22 22 27 Try.underlying22 (size := 3) edg_size g2 (i + 1) (n - i) (cap2 - (i + 1)) (rowC Edg.cells (l.take i) ++ e.cells ++ X) HG4.out (some ⟨g, i * 3, none⟩) (n - i) (c - i) (c - i) (rowC Edg.cells (l.drop i)) (n - i) (by omega) HTI4.out (rowC_ones Edg.ones _) hfit
      rw [HTK2.out] at hg5
      have HG5 := Lib.hid hg5; have HB5 : Hid (Below w.heap.size z0 w5) := Lib.hid (hb5.below (by rw [HGW.out]; exact Nat.le_refl _) HBW4.out.size)
      clear hg5 hb5
      go_wp2_with fail
      clear hcp
      refine pieceEnd_normal ⟨HB5.out, ?_⟩
      refine wpGrow_nil ?_
      repeat (go_big_quiet_step (fail))
      refine wpQuiet_nil ?_
      go_wp2_with fail
      go_ret
      have HDD : rowC Edg.cells (l.take i) ++ e.cells ++ rowC Edg.cells (l.drop i) = rowC Edg.cells (l.take i ++ e :: l.drop i) := by rw [rowC_app, rowC_one, List.append_assoc]
      have hg5 := HG5.out
      rw [HDD] at hg5
      have hdl : (l.take i ++ e :: l.drop i).length = n + 1 := by rw [List.length_append, List.length_cons, List.length_drop, htl, hln]; omega
      have he : EBlk w5 B g2 (n + 1) cap2 (l.take i ++ e :: l.drop i) ((rowC Edg.cells (l.take i) ++ e.cells ++ X).drop ((i + 1 + (n - i)) * 3)) := ⟨by rw [← HGW.out]; exact hB, hg5, hdl, hc1, HC2.out, by
        rw [List.length_append, rowC_len Edg.len, hdl, List.length_drop, HL3.out]; omega⟩
      rw [hdl]
      exact ⟨_, rfl, he.own, (HBW4.out.trans HB5.out).mono hB⟩
    · have b1 : decide ((n : Int) + (1 : Int) > (c : Int)) = false := decide_eq_false (by omega)
      have b1' : decide ((c : Int) < (n : Int) + (1 : Int)) = false := b1
      have hs1 := fun w' => run_slice_low (P := Try.prog) (t := 22) Try.underlying22 edg_size (g := g) (n := n) (c := c) (i := n + 1) (x := (n : Int) + 1) (by omega) (by omega) .i64 w'
      go_enter Try.func43, Try.ntmps43
      go_upto_region 14 with fail
      clear b1 b1' hs1 hs0
      have hs1 := fun w' => run_slice_off (P := Try.prog) (t := 22) Try.underlying22 edg_size (g := g) (n := n + 1) (c := c) (i := i + 1) (x := (i : Int) + 1) (by omega) (by omega) (by omega) .i64 w'
      have hov : ∀ lb cb, (callFunc 52 #[.slice (some ⟨h, 0, none⟩) 1 1, .slice (some ⟨g, (i + 1) * 3, none⟩) lb cb]).run Try.prog w = .ok (.value (.bool false)) w := fun lb cb => by
        have hsa : w.shape? h = some (27, 3) := by unfold World.shape?; rw [HH.out]; simp [Edg.arr]
        have hsb : w.shape? g = some (27, (rowC Edg.cells l ++ T).length) := by unfold World.shape?; rw [HEK.out.at_]; simp
        have hfa : w.frozen? ⟨h, 0, none⟩ = false := by unfold World.frozen?; rw [HH.out]; simp
        have hfe : w.frozen? ⟨h, 3, none⟩ = false := by unfold World.frozen?; rw [HH.out]; simp
        rw [run_callFunc_extern Try.func52 (by kernel_rfl) (by kernel_rfl) (by kernel_rfl) (e := Extern.SlicesOverlaps.overlaps #[22, 22] #[4]) (by kernel_rfl),
          Lib.run_overlaps_apart w 22 4 27 Try.underlying22 3 Try.sizeOf27 ⟨h, 0, none⟩ ⟨g, (i + 1) * 3, none⟩ 1 1 lb cb (Ne.symm hgh) 27 27 3 _ hsa hsb (by rw [HEK.out.size]; omega) hfa hfe]
        rfl
      go_upto_region 15 with (simp only [hov])
      clear hov hs1
      have htl : (l.take i).length = i := by rw [List.length_take]; omega
      have HSZ : Hid ((rowC Edg.cells l ++ T).length = c * 3) := Lib.hid HEK.out.size
      refine wp_region_grow (by kernel_rfl) (Below B) (Below.refl _) (fun _ _ _ => Below.trans) [] [([0, 1, 2, 3, 4, 5, 6, 7], 8)] (by kernel_rfl) (by kernel_rfl) (by kernel_rfl) ?_
      simp only [List.map_cons, List.map_nil, pick, List.getD_cons_zero, List.getD_cons_succ]
      have HG4 : Hid (w.drew.heap[g]? = some (.cells (rowC Edg.cells l ++ T).toArray 27 (0, 0))) := Lib.hid HEK.out.at_
      have HTI4 := Lib.hid (HTI.out.later (Later.drew w))
      have HH4 : Hid (w.drew.heap[h]? = some (.cells e.arr 27 (0, 0))) := HH
      have HBW4 : Hid (Below B w w.drew) := Lib.hid (Below.refl _ _).drew
      have HBS : Hid (B ≤ w.drew.heap.size) := Lib.hid hB
      generalize w.drew = z0 at *
      have hsa := fun w' => run_slice_off (P := Try.prog) (t := 22) Try.underlying22 edg_size (g := g) (n := n + 1) (c := c) (i := i + 1) (x := (i : Int) + 1) (by omega) (by omega) (by omega) .i64 w'
      have hsb := fun w' => run_slice_off (P := Try.prog) (t := 22) Try.underlying22 edg_size (g := g) (n := n + 1) (c := c) (i := i) rfl (by omega) (by omega) .i64 w'
      refine wpGrow_cons ?_
      repeat (go_big_quiet_step (fail))
      refine wpQuiet_nil ?_
      have hfit : (i + 1 + (n - i)) * 3 ≤ (rowC Edg.cells l ++ T).length := by rw [HSZ.out]; omega
      obtain ⟨w3, hcp, hg3, hb3⟩ := run_copy_rowE (P := Try.prog) z0 22 22 27 Try.underlying22 (size := 3) edg_size g (i + 1) (n - i) (c - (i + 1)) (rowC Edg.cells l ++ T) HG4.out (some ⟨g, i * 3, none⟩) (n + 1 - i) (c - i) (c - i) (rowC Edg.cells (l.drop i)) (n - i) (by omega) HTI4.out (rowC_ones Edg.ones _) hfit
      have HG3 := Lib.hid hg3; have HBT := Lib.hid hb3
      have HB3 : Hid (Below B z0 w3) := Lib.hid (hb3.below HLO.out HBS.out)
      clear hg3 hb3 hsa hsb
      go_wp2_with fail
      clear hcp
      refine pieceEnd_normal ⟨HB3.out, ?_⟩
      have HH5 : Hid (w3.heap[h]? = some (.cells e.arr 27 (0, 0))) := Lib.hid ((HBT.out.block h (Array.getElem?_eq_some_iff.1 HH4.out).1 (Ne.symm hgh)).trans HH4.out)
      have HL3 : Hid (((rowC Edg.cells l ++ T).take ((i + 1) * 3) ++ rowC Edg.cells (l.drop i) ++ (rowC Edg.cells l ++ T).drop ((i + 1 + (n - i)) * 3)).length = c * 3) := Lib.hid (by
        rw [List.length_append, List.length_append, List.length_drop, List.length_take, HSZ.out, rowC_len Edg.len, List.length_drop, hln]; omega)
      have HTK : Hid (((rowC Edg.cells l ++ T).take ((i + 1) * 3) ++ rowC Edg.cells (l.drop i) ++ (rowC Edg.cells l ++ T).drop ((i + 1 + (n - i)) * 3)).take (i * 3) = rowC Edg.cells (l.take i)) := Lib.hid (by
        rw [List.append_assoc, List.take_append_of_le_length (by rw [List.length_take, HSZ.out]; omega), List.take_take, Nat.min_eq_left (by omega), ecut (by omega)])
      have HDR : Hid (((rowC Edg.cells l ++ T).take ((i + 1) * 3) ++ rowC Edg.cells (l.drop i) ++ (rowC Edg.cells l ++ T).drop ((i + 1 + (n - i)) * 3)).drop ((i + 1) * 3) = rowC Edg.cells (l.drop i) ++ (rowC Edg.cells l ++ T).drop ((i + 1 + (n - i)) * 3)) := Lib.hid (by
        rw [List.append_assoc, List.drop_append_of_le_length (by rw [List.length_take, HSZ.out]; omega), List.drop_eq_nil_of_le (by rw [List.length_take]; omega), List.nil_append])
      generalize (rowC Edg.cells l ++ T).drop ((i + 1 + (n - i)) * 3) = X at *
      generalize (rowC Edg.cells l ++ T).take ((i + 1) * 3) ++ rowC Edg.cells (l.drop i) ++ X = Y at *
      refine wpGrow_nil ?_
      repeat (go_big_quiet_step (fail))
      refine wpQuiet_nil ?_
      clear hfit
      have hs1 := fun w' => run_slice_off (P := Try.prog) (t := 22) Try.underlying22 edg_size (g := g) (n := n + 1) (c := c) (i := i) rfl (by omega) (by omega) .i64 w'
      have hfit : (i + 1) * 3 ≤ Y.length := by rw [HL3.out]; omega
      obtain ⟨w5, hcp, hg5, hb5⟩ := run_copy_rowE (P := Try.prog) w3 22 22 27 Try.underlying22 (size := 3) edg_size g i (n + 1 - i) (c - i) Y HG3.out (some ⟨h, 0, none⟩) 1 1 1 e.cells 1 (by omega) (one_row3 HH5.out) e.ones hfit
      rw [HTK.out, HDR.out] at hg5
      have HG5 := Lib.hid hg5; have HB5 : Hid (Below B w3 w5) := Lib.hid (hb5.below HLO.out (Nat.le_trans HBS.out HB3.out.size))
      clear hg5 hb5
      go_wp2_with fail
      go_ret
      have HDD : rowC Edg.cells (l.take i) ++ e.cells ++ (rowC Edg.cells (l.drop i) ++ X) = rowC Edg.cells (l.take i ++ e :: l.drop i) ++ X := by rw [rowC_app, rowC_one, List.append_assoc, List.append_assoc, List.append_assoc]
      have hg5 := HG5.out
      rw [HDD] at hg5
      have hdl : (l.take i ++ e :: l.drop i).length = n + 1 := by rw [List.length_append, List.length_cons, List.length_drop, htl, hln]; omega
      have hsz : (rowC Edg.cells (l.take i ++ e :: l.drop i) ++ X).length = c * 3 := by
        have h1 := congrArg List.length HDR.out
        rw [List.length_drop, HL3.out, List.length_append, rowC_len Edg.len, List.length_drop, hln] at h1
        rw [List.length_append, rowC_len Edg.len, hdl]
        omega
      have he : EBlk w5 B g (n + 1) c (l.take i ++ e :: l.drop i) X := ⟨HLO.out, hg5, hdl, by omega, HEK.out.mx, hsz⟩
      rw [hdl]
      exact ⟨_, rfl, he.own, (HBW4.out.trans HB3.out).trans HB5.out⟩
end Go.Proofs.Ytnmpbjgccbnomaa
/- The walks of cmp.Or, cmp.Compare, strings.Compare. -/
namespace Go.Proofs.Ytnmpbjgccbnomaa
open Go.RowKit
/-- The first number that is not zero. -/
def firstNZ : List Int → Int
  | [] => 0
  | x :: l => if x = 0 then firstNZ l else x
theorem firstNZ_drop (l : List Int) (j : Nat) (h : ∀ i, i < j → l.getD i 0 = 0) (hj : j ≤ l.length) : firstNZ l = firstNZ (l.drop j) := by
  induction j with
  | zero => rfl
  | succ j ih =>
    rw [ih (fun i hi => h i (by omega)) (by omega), List.drop_eq_getElem_cons (show j < l.length by omega)]
    have h0 := h j (by omega)
    rw [List.getD_eq_getElem?_getD, List.getElem?_eq_getElem (by omega)] at h0
    exact if_pos h0
set_option maxRecDepth 100000 in
set_option maxHeartbeats 1000000 in
theorem or_any (A : Option Addr) (n c : Nat) (l : List Int) (w : World) (hl : IRow w A n c l) (hn : n ≤ 1000000) :
    Calls Try.prog 49 #[.slice A n c] w fun e w' => e = .returned (.int .i64 (firstNZ l)) ∧ w' = w := by
  have HL := Lib.hid hl; have HLN := Lib.hid hl.len
  clear hl
  go_enter Try.func49, Try.ntmps49
  go_wp2
  go_loopw [8] (fun i wr => ∃ j : Nat, j ≤ n ∧ i = .int .i64 j ∧ wr = w ∧ Hid (∀ i, i < j → l.getD i 0 = 0)) (fun i _ => n - (intOf i).toNat)
  case atStart => exact ⟨0, Nat.zero_le _, rfl, rfl, Lib.hid fun _ h => absurd h (Nat.not_lt_zero _)⟩
  case round =>
    obtain ⟨j, hj, rfl, rfl, HQ⟩ := hrel
    by_cases hlt : j < n
    · obtain ⟨ab, off, hA, hc0⟩ := HL.out.cell j hlt
      subst hA
      by_cases hz : l.getD j 0 = 0
      · rw [hz] at hc0
        have HZ := Lib.hid hz; clear hz
        go_wp2
        refine ⟨⟨j + 1, hlt, by go_num, by simp, Lib.hid fun i hi => ?_⟩, by simp [intOf]; omega⟩
        by_cases h : i = j
        · rw [h]; exact HZ.out
        · exact HQ.out i (by omega)
      · have HZ : Hid (firstNZ l = l.getD j 0) := Lib.hid (by
          rw [firstNZ_drop l j HQ.out (by have := HLN.out; omega), List.drop_eq_getElem_cons (show j < l.length by have := HLN.out; omega)]
          have e : l.getD j 0 = l[j]'(by have := HLN.out; omega) := by rw [List.getD_eq_getElem?_getD, List.getElem?_eq_getElem (by have := HLN.out; omega)]; rfl
          rw [e] at hz ⊢
          show (if l[j]'_ = 0 then _ else _) = _
          rw [if_neg hz])
        generalize l.getD j 0 = x at hc0 HZ hz
        have hx : (x != 0) = true := by simpa using hz
        clear hz
        go_wp2
        go_ret
        exact ⟨by rw [HZ.out]; rfl, rfl⟩
    · have HE : Hid (j = n) := by unfold Hid; omega
      go_wp2
      go_ret
      refine ⟨?_, rfl⟩
      rw [firstNZ_drop l j HQ.out (by have := HLN.out; omega), List.drop_eq_nil_of_le (by have := HLN.out; have := HE.out; omega)]
      rfl
set_option maxHeartbeats 1000000 in
theorem cmpInt_any (x y : Int) (w : World) :
    Calls Try.prog 50 #[.int .i64 x, .int .i64 y] w fun e w' => e = .returned (.int .i64 (Lib.compareInt x y)) ∧ w' = w := by
  go_enter Try.func50, Try.ntmps50
  go_wp2
  all_goals (go_ret; refine ⟨?_, rfl⟩; unfold Lib.compareInt; (repeat' split) <;> first | rfl | (exfalso; omega))
end Go.Proofs.Ytnmpbjgccbnomaa
/- The walk of store's compare. -/
namespace Go.Proofs.Ytnmpbjgccbnomaa
open Go.RowKit
/-- Blocks and draws may have come; nothing has turned. -/
def Laid (a b : World) : Prop := Below a.heap.size a b ∧ a.drawn ≤ b.drawn
theorem Laid.refl (a : World) : Laid a a := ⟨Below.refl _ _, Nat.le_refl _⟩
theorem Laid.trans {a b c : World} (h : Laid a b) (k : Laid b c) : Laid a c := ⟨h.1.trans (k.1.mono h.1.size), Nat.le_trans h.2 k.2⟩
theorem Laid.alloc (a : World) (o : Obj) : Laid a (a.alloc o) := ⟨one_new a o, Nat.le_refl _⟩
theorem Laid.drew (a : World) : Laid a a.drew := ⟨(Below.refl _ _).drew, Nat.le_succ _⟩
end Go.Proofs.Ytnmpbjgccbnomaa
/- The walk of graph's compare, and its order. -/
namespace Go.Proofs.Ytnmpbjgccbnomaa
open Go.RowKit
/-- The order of edges as the program reckons it. -/
def cmpEd (a b : Edg) : Int := firstNZ [Lib.compareInt a.fr b.fr, Lib.compareInt a.tu b.tu]
theorem cmpI_three (x y : Int) : (x < y ∧ Lib.compareInt x y = -1) ∨ (x = y ∧ Lib.compareInt x y = 0) ∨ (y < x ∧ Lib.compareInt x y = 1) := by
  unfold Lib.compareInt
  (repeat' split) <;> omega
theorem cmpEd_iff (a b : Edg) : cmpEd a b < 0 ↔ befE a b = true := by
  rw [befE_iff]
  unfold cmpEd firstNZ firstNZ firstNZ ltE
  rcases cmpI_three a.fr b.fr with ⟨h, e⟩ | ⟨h, e⟩ | ⟨h, e⟩
  · rw [e, if_neg (by decide)]; omega
  · rw [e, if_pos rfl]
    rcases cmpI_three a.tu b.tu with ⟨k, f⟩ | ⟨k, f⟩ | ⟨k, f⟩
    · rw [f, if_neg (by decide)]; omega
    · rw [f, if_pos rfl]; omega
    · rw [f, if_neg (by decide)]; omega
  · rw [e, if_neg (by decide)]; omega
theorem cmpEd_zero (a b : Edg) : cmpEd a b = 0 ↔ a.fr = b.fr ∧ a.tu = b.tu := by
  unfold cmpEd firstNZ firstNZ firstNZ
  rcases cmpI_three a.fr b.fr with ⟨h, e⟩ | ⟨h, e⟩ | ⟨h, e⟩
  · rw [e, if_neg (by decide)]; omega
  · rw [e, if_pos rfl]
    rcases cmpI_three a.tu b.tu with ⟨k, f⟩ | ⟨k, f⟩ | ⟨k, f⟩
    · rw [f, if_neg (by decide)]; omega
    · rw [f, if_pos rfl]; omega
    · rw [f, if_neg (by decide)]; omega
  · rw [e, if_neg (by decide)]; omega
theorem edg_cells {w : World} {g : Nat} {p : Edg} {t : TypeId} {fr : Nat × Nat} (h : w.heap[g]? = some (.cells p.arr t fr)) :
    w.cell? ⟨g, 0, none⟩ = some (.int .i64 p.fr) ∧ w.cell? ⟨g, 1, none⟩ = some (.int .i64 p.tu) ∧ w.cell? ⟨g, 2, none⟩ = some (.int .i64 p.lv) :=
  ⟨(cell_of_row _ _ 0 _ _ _ h).trans rfl, (cell_of_row _ _ 1 _ _ _ h).trans rfl, (cell_of_row _ _ 2 _ _ _ h).trans rfl⟩
theorem edg_futs {F : World → World → Prop} (hr : ∀ w, F w w) {W : World} {g : Nat} {p : Edg} {t : TypeId} {fr : Nat × Nat} (hF : ∀ w', F W w' → w'.heap[g]? = W.heap[g]?) (h : W.heap[g]? = some (.cells p.arr t fr)) :
    (∀ x, (fut F W x).cell? ⟨g, 0, none⟩ = some (.int .i64 p.fr)) ∧ (∀ x, (fut F W x).cell? ⟨g, 1, none⟩ = some (.int .i64 p.tu)) ∧ (∀ x, (fut F W x).cell? ⟨g, 2, none⟩ = some (.int .i64 p.lv)) := by
  have h2 := fun x => edg_cells ((hF _ (fut_ok hr W x)).trans h)
  exact ⟨fun x => (h2 x).1, fun x => (h2 x).2.1, fun x => (h2 x).2.2⟩
set_option maxRecDepth 100000 in
set_option maxHeartbeats 1000000 in
theorem compareEd_any (p q : Edg) (w : World) : Calls Try.prog 40 #[.agg p.arr, .agg q.arr] w fun e w' => e = .returned (.int .i64 (cmpEd p q)) ∧ Laid w w' := by
  have HB : Hid (Laid w (((w.alloc (.cells p.arr 27)).alloc (.cells q.arr 27)).drew)) := Lib.hid (((Laid.alloc w _).trans (Laid.alloc _ _)).trans (Laid.drew _))
  have HX : Hid ((((w.alloc (.cells p.arr 27)).alloc (.cells q.arr 27)).drew).heap[w.heap.size]? = some (.cells p.arr 27 (0, 0))) := Lib.hid ((Below.heap_alloc _ _ _ (by simp)).trans (heap_alloc_new _ _))
  have HY : Hid ((((w.alloc (.cells p.arr 27)).alloc (.cells q.arr 27)).drew).heap[w.heap.size + 1]? = some (.cells q.arr 27 (0, 0))) := Lib.hid (heap_alloc2_new _ _ _)
  unfold cmpEd
  go_enter Try.func40, Try.ntmps40
  go_wp2_with fail
  refine wp_region_grow (by kernel_rfl) Laid Laid.refl (fun _ _ _ => Laid.trans) [12] [([0, 1, 2, 3, 5, 6, 7, 8], 4), ([], 9), ([], 10), ([], 11)] (by kernel_rfl) (by kernel_rfl) (by kernel_rfl) ?_
  simp only [List.map_cons, List.map_nil, pick, List.getD_cons_zero, List.getD_cons_succ]
  generalize (((w.alloc (.cells p.arr 27)).alloc (.cells q.arr 27)).drew) = w1 at HB HX HY ⊢
  have hlx : w.heap.size < w1.heap.size := (Array.getElem?_eq_some_iff.1 HX.out).1
  have hly : w.heap.size + 1 < w1.heap.size := (Array.getElem?_eq_some_iff.1 HY.out).1
  obtain ⟨hf0, hf1, hf2⟩ := edg_futs (F := Laid) Laid.refl (p := p) (W := w1) (fun w' h => h.1.block _ hlx) HX.out
  obtain ⟨hg0, hg1, hg2⟩ := edg_futs (F := Laid) Laid.refl (p := q) (W := w1) (fun w' h => h.1.block _ hly) HY.out
  obtain ⟨x0, x1, x2⟩ := p
  obtain ⟨y0, y1, y2⟩ := q
  simp only at hf0 hf1 hf2 hg0 hg1 hg2 ⊢
  refine wpGrow_cons ?_
  repeat (go_big_quiet_step (fail))
  refine wpQuiet_nil ?_
  clear hf0 hf1 hf2 hg0 hg1 hg2 HX HY hlx hly
  go_wp2_with fail
  refine (cmpInt_any _ _ _).mono ?_
  rintro e w2 ⟨rfl, rfl⟩
  go_wp2_with fail
  refine pieceEnd_normal ⟨Laid.refl _, ?_⟩
  refine wpGrow_cons ?_
  refine wpQuiet_nil ?_
  go_wp2_with fail
  refine (cmpInt_any _ _ _).mono ?_
  rintro e w4 ⟨rfl, rfl⟩
  go_wp2_with fail
  refine pieceEnd_normal ⟨Laid.refl _, ?_⟩
  generalize hr1 : Lib.compareInt x0 y0 = r1
  generalize hr2 : Lib.compareInt x1 y1 = r2
  have HR := Lib.hid (And.intro hr1 hr2); clear hr1 hr2
  refine wpGrow_cons ?_
  refine wpQuiet_nil ?_
  go_wp2_with fail
  refine pieceEnd_normal ⟨Laid.alloc _ _, ?_⟩
  have HI := Lib.hid (show IRow (w4.alloc (.cells #[.int .i64 r1, .int .i64 r2] 3)) (some ⟨w4.heap.size, 0, none⟩) 2 2 [r1, r2] from Row.of_block (heap_alloc_new _ _) rfl)
  have HB2 := Lib.hid (HB.out.trans (Laid.alloc w4 (.cells #[.int .i64 r1, .int .i64 r2] 3)))
  refine wpGrow_cons ?_
  refine wpQuiet_nil ?_
  go_wp2_with fail
  refine (or_any _ _ _ _ _ HI.out (by omega)).mono ?_
  rintro e w5 ⟨rfl, rfl⟩
  go_wp2_with fail
  refine pieceEnd_normal ⟨Laid.refl _, ?_⟩
  refine wpGrow_nil ?_
  repeat (go_big_quiet_step (fail))
  refine wpQuiet_nil ?_
  go_wp2_with fail
  go_ret
  exact ⟨by rw [HR.out.1, HR.out.2]; rfl, HB2.out⟩
end Go.Proofs.Ytnmpbjgccbnomaa
/- The walk of the reference's Between. -/
namespace Go.Proofs.Ytnmpbjgccbnomaa
open Go.RowKit
end Go.Proofs.Ytnmpbjgccbnomaa
/- The law of layer 10 on one list, over any program that gives what layer 10 asks. -/
namespace Go.Proofs.Ytnmpbjgccbnomaa
open Go.RowKit
/-- A list as layer 10 is specified for: what counts of some authors, by author and number. -/
structure Ord10 (S : List Stm) : Prop where
  ok : ∀ s ∈ S, checkV s = 0
  link : Linked none S
  ord : S.Pairwise fun a b => a.author < b.author ∨ (a.author = b.author ∧ a.number < b.number)
theorem sameI_self (A : Option Addr) (n c : Nat) (B : Option Addr) (m k : Nat) (l : List Int) (w : World) (h1 : IRow w A n c l) (h2 : IRow w B m k l) (hn : n ≤ 100000) : Calls Try.prog 15 #[.slice A n c, .slice B m k] w (SaysL (.bool true) w) := by
  refine (sameInts_any A n c l B m k l w h1 h2 (by omega)).mono ?_
  intro e w' h
  rwa [sameIB_self] at h
end Go.Proofs.Ytnmpbjgccbnomaa
/- What counts of a store: it is in the order that layer 10 is specified for; its lists are the call's own. -/
namespace Go.Proofs.Ytnmpbjgccbnomaa
open Go.RowKit
end Go.Proofs.Ytnmpbjgccbnomaa
/- Plain facts on vouches: their order, which are active, and that statements with a later time do not matter. -/
namespace Go.Proofs.Ytnmpbjgccbnomaa
open Go.RowKit
end Go.Proofs.Ytnmpbjgccbnomaa
/- Plain facts on what is active: at most one between two, and statements with a later time do not matter. -/
namespace Go.Proofs.Ytnmpbjgccbnomaa
open Go.RowKit
theorem stm_at {l : List Stm} {i : Nat} (h : i < l.length) : l.getD i noStm = l[i] := by
  rw [List.getD_eq_getElem?_getD, List.getElem?_eq_getElem h]; rfl
theorem Ord10.at {S : List Stm} (h : Ord10 S) {i j : Nat} (hij : i < j) (hj : j < S.length) : (S.getD i noStm).author < (S.getD j noStm).author ∨ ((S.getD i noStm).author = (S.getD j noStm).author ∧ (S.getD i noStm).number < (S.getD j noStm).number) := by
  have h1 := h.ord
  rw [List.pairwise_iff_getElem] at h1
  rw [stm_at hj, stm_at (by omega : i < S.length)]
  exact h1 i j (by omega) hj hij
theorem linked_time : ∀ {l : List Stm} {o : Option Stm}, Linked o l → ∀ i, i < l.length → 0 < (l.getD i noStm).number → 0 < i → (l.getD (i - 1) noStm).time ≤ (l.getD i noStm).time
  | [], _, _, i, hi, _, _ => absurd hi (Nat.not_lt_zero _)
  | s :: l, o, h, i, hi, h0, hp => by
    obtain ⟨k, rfl⟩ : ∃ k, i = k + 1 := ⟨i - 1, by omega⟩
    cases k with
    | zero =>
      cases l with
      | nil => exact absurd hi (by simp)
      | cons t m =>
        obtain ⟨p, hp, _, _, h3⟩ := h.2.1 h0
        injection hp with hp
        subst hp
        exact h3
    | succ k => exact linked_time h.2 (k + 1) (Nat.lt_of_succ_lt_succ hi) h0 (Nat.succ_pos _)
/-- An author's times rise with the numbers. -/
theorem Ord10.mono {S : List Stm} (h : Ord10 S) (i : Nat) : ∀ d, i + d < S.length → (S.getD i noStm).author = (S.getD (i + d) noStm).author → (S.getD i noStm).time ≤ (S.getD (i + d) noStm).time
  | 0, _, _ => Int.le_refl _
  | d + 1, hd, ha => by
    have h0 : 0 ≤ (S.getD i noStm).number := by
      rw [stm_at (by omega : i < S.length)]
      exact (check_bounds (h.ok _ (List.getElem_mem _))).2.2.1
    have h1 := h.at (show i < i + (d + 1) by omega) hd
    have h2 : 0 < (S.getD (i + (d + 1)) noStm).number := by omega
    have h3 := linked_time h.link (i + (d + 1)) hd h2 (by omega)
    rcases h.link.at (i + (d + 1)) hd h2 with ⟨h4, _⟩ | ⟨_, h5, _⟩
    · omega
    · rw [show i + (d + 1) - 1 = i + d by omega] at h3 h5
      exact Int.le_trans (h.mono i d (by omega) (by rw [ha, h5])) h3
theorem mem_at {S : List Stm} {s : Stm} (h : s ∈ S) : ∃ i, i < S.length ∧ S.getD i noStm = s := by
  obtain ⟨i, hi, he⟩ := List.mem_iff_getElem.1 h
  exact ⟨i, hi, by rw [stm_at hi, he]⟩
theorem Ord10.times {S : List Stm} (h : Ord10 S) {a b : Stm} (ha : a ∈ S) (hb : b ∈ S) (he : a.author = b.author) (hn : a.number < b.number) : a.time ≤ b.time := by
  obtain ⟨i, hi, rfl⟩ := mem_at ha
  obtain ⟨j, hj, rfl⟩ := mem_at hb
  have hij : i < j := by
    rcases Nat.lt_or_ge j i with hc | hc
    · have := h.at hc hi; omega
    · rcases Nat.lt_or_ge i j with hd | hd
      · exact hd
      · rw [show i = j by omega] at hn; omega
  have := h.mono i (j - i) (by omega) (by rw [show i + (j - i) = j by omega]; exact he)
  rwa [show i + (j - i) = j by omega] at this
theorem Ord10.until {S : List Stm} (h : Ord10 S) (tm : Int) : Ord10 (untilS tm S) :=
  ⟨fun s hs => h.ok s ((List.mem_filter.1 hs).1), h.link.until tm fun _ hp _ => hp, h.ord.sublist (List.filter_sublist)⟩
end Go.Proofs.Ytnmpbjgccbnomaa
/- What is active, told by statements; what is active does not depend on statements with a later time. -/
namespace Go.Proofs.Ytnmpbjgccbnomaa
open Go.RowKit
end Go.Proofs.Ytnmpbjgccbnomaa
