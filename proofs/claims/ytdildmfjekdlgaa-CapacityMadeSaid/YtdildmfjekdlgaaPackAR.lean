import Derived.Test.YtdildmfjekdlgaaPackAQ
import Derived.Shelf.Bits.Mul64
import Derived.Test.YtdildmfjekdlgaaGWithP
import Derived.Lib.AppendZerosOnto
import Derived.Deep.LoopGhost
import Derived.Sort.WalkB12
import Derived.Sort.WalkB2
import Derived.BigRegion
/- The walk of graph's Out: its result lies in memory of its own. -/
namespace Go.Proofs.Ytdildmfjekdlgaa
open Go.RowKit
set_option maxRecDepth 100000 in
set_option maxHeartbeats 4000000 in
theorem outGr_own (G : Gr) (v : Value) (key : Int) (w : World) (h : GHold w G v) (he : G.es.length ≤ 100000) : Calls Try.prog 40 #[v, .int .i64 key] w fun e w' => ∃ v', e = .returned v' ∧ w'.ownsRow w.heap.size 3 1 v' (outS G.es key).length (intsV (outS G.es key)) ∧ Below w.heap.size w w' := by
  obtain ⟨A, n, c, B, m, k, rfl, h1, -⟩ := h
  have hn : n ≤ 100000 := by rw [← ERow.len h1]; exact he
  have HLN : Hid (G.es.length = n) := Lib.hid (ERow.len h1)
  have HNW := Lib.hid (one_new w (.cells #[.int .i64 G.sz, .slice A n c, .slice B m k] 31))
  have HX : Hid ((w.alloc (.cells #[.int .i64 G.sz, .slice A n c, .slice B m k] 31)).heap[w.heap.size]? = some (.cells #[.int .i64 G.sz, .slice A n c, .slice B m k] 31 (0, 0))) := Lib.hid (heap_alloc_new _ _)
  have HL := Lib.hid (GRow.later h1 HNW.out)
  clear h1 he
  go_enter Try.func40, Try.ntmps40
  go_upto_region 1 with fail
  generalize w.alloc (.cells #[.int .i64 G.sz, .slice A n c, .slice B m k] 31) = y0 at *
  obtain ⟨g, hgg⟩ : ∃ g, w.heap.size = g := ⟨_, rfl⟩
  rw [hgg] at HX ⊢
  have HGG := Lib.hid hgg
  clear hgg
  have hg1 : y0.cell? ⟨g, 1, none⟩ = some (.slice A n c) := (cell_of_row _ _ 1 _ _ _ HX.out).trans rfl
  go_wp2_with fail
  clear hg1
  go_loopw [5, 11] (fun v i wr => ∃ j : Nat, j ≤ n ∧ i = .int .i64 j ∧ Hid (wr.ownsRow y0.heap.size 3 1 v (outS (G.es.take j) key).length (intsV (outS (G.es.take j) key)) ∧ Below y0.heap.size y0 wr)) (fun _ i _ => n - (intOf i).toNat)
  case atStart => exact ⟨0, Nat.zero_le _, rfl, Lib.hid ⟨World.ownsRow_nil _ _ _ _, Below.refl _ _⟩⟩
  case round =>
    obtain ⟨j, hj, rfl, HQ⟩ := hrel
    obtain ⟨A1, c1, hv, -⟩ := Row.of_own HQ.out.1
    subst hv
    have HGL : Hid ((outS (G.es.take j) key).length ≤ 100000) := Lib.hid (Nat.le_trans (outS_len G.es key j (by have := HLN.out; omega)) (by omega))
    by_cases hlt : j < n
    · have hlt2 : (j : Int) < (n : Int) := by omega
      have HST := Lib.hid (outS_snoc G.es key j (by rw [HLN.out]; exact hlt))
      obtain ⟨b, off, hA, hc⟩ := GRow.cells Edg.len (by decide) (GRow.later HL.out HQ.out.2) noEdg j hlt
      subst hA
      generalize G.es.getD j noEdg = p at *
      have HC : Hid (∀ q, q < p.arr.size → wr.cell? ⟨b, off + j * 3 + q, none⟩ = p.arr[q]?) := Lib.hid fun q hq => (hc q hq).trans (by rw [← Edg.list, Array.getElem?_toList])
      clear hc
      go_upto_region 5 with (first | (refine wpList_load_cells rfl 45 (.tmp 13) rfl b (off + j * 3) rfl p.arr _ Try.underlying45 rfl p.info HC.out ?_) | (refine wpList_store_new rfl 45 (.tmp 7) (.tmp 14) rfl 45 _ p.arr rfl rfl p.info rfl p.one ?_))
      have HN3 := Lib.hid (one_new wr (.cells p.arr 45))
      have HY : Hid ((wr.alloc (.cells p.arr 45)).heap[wr.heap.size]? = some (.cells p.arr 45 (0, 0))) := Lib.hid (heap_alloc_new _ _)
      have HO := Lib.hid (own_later HQ.out.1 HN3.out); have HB := Lib.hid (HQ.out.2.trans (HN3.out.mono HQ.out.2.size))
      clear HQ HC HN3
      generalize wr.alloc (.cells p.arr 45) = x2 at *
      generalize wr.heap.size = g4 at *
      obtain ⟨hy0, hy1, -⟩ := edg_cells HY.out
      generalize p.fr = fr at *
      generalize p.tu = tu at *
      generalize hgu : outS (G.es.take j) key = U at *
      clear hgu
      by_cases hk : fr = key
      · have b0 : (fr == key) = true := by rw [hk]; simp
        rw [if_pos hk] at HST
        clear hk
        have hgl := HGL.out
        have hsz : y0.heap.size ≤ x2.heap.size := HB.out.size
        go_wp2_with (at_builtin; go_must (refine wpList_app_new x2 rfl (.tmp 19) (.tmp 22) 22 3 rfl y0.heap.size Try.underlying22 i64_info rfl _ U.length (intsV U) HO.out rfl 1 #[.int .i64 tu] rfl (by simp [Value.oneCell']) rfl rfl (by unfold maxLen; omega) (by omega) hsz ?_); intro v3 w3 ho3 hb3; have HO3 := Lib.hid ho3; have HB3 := Lib.hid (HB.out.trans hb3); clear ho3 hb3)
        exact ⟨⟨j + 1, hlt, by go_num, Lib.hid (by rw [HST.out, List.length_append, intsV_app]; exact ⟨HO3.out, HB3.out⟩)⟩, by simp [intOf]; omega⟩
      · have b0 : (fr == key) = false := by rw [beq_eq_false_iff_ne]; exact hk
        rw [if_neg hk, List.append_nil] at HST
        clear hk
        go_wp2_with fail
        exact ⟨⟨j + 1, hlt, by go_num, Lib.hid ⟨by rw [HST.out]; exact HO.out, HB.out⟩⟩, by simp [intOf]; omega⟩
    · have hlt2 : ¬ (j : Int) < (n : Int) := by omega
      have HE : Hid (outS (G.es.take j) key = outS G.es key) := Lib.hid (by rw [List.take_of_length_le (by rw [HLN.out]; omega)])
      have HO3 := HQ.out.1
      have HB3 := HQ.out.2
      rw [HE.out] at HO3 ⊢
      have HO4 := Lib.hid HO3
      have HB4 := Lib.hid HB3
      clear HO3 HB3 HQ HE HGL
      go_wp2_with fail
      go_ret
      exact ⟨_, rfl, own_mono HO4.out (by have := HNW.out.size; have := HGG.out; omega), HNW.out.trans (HB4.out.mono HNW.out.size)⟩
end Go.Proofs.Ytdildmfjekdlgaa
/- math/bits.Mul: the shelf's contract at this program. -/
namespace Go.Proofs.Ytdildmfjekdlgaa
open Go.RowKit Go.Shelf
def mul_ren : Go.Shelf.Ren := ⟨fun | 212 => 67 | 263 => 69 | 264 => 70 | n => n, fun | 46 => 80 | 51 => 83 | 53 => 86 | 146 => 84 | 148 => 87 | n => n, fun | n => n⟩
theorem mulLays : Lays.n212 Try.prog mul_ren := {
  mixed := by kernel_rfl
  f212 := Try.func67.trans (congrArg some (by kernel_rfl))
  f263 := Try.func69.trans (congrArg some (by kernel_rfl))
  f264 := Try.func70.trans (congrArg some (by kernel_rfl))
  t46 := Try.underlying80
  a46 := Try.isAgg80
  z46 := Try.sizeOf80
  v46 := Try.zeroValue80
  t51 := Try.underlying83
  a51 := Try.isAgg83
  z51 := Try.sizeOf83
  v51 := Try.zeroValue83
  t53 := Try.underlying86
  a53 := Try.isAgg86
  z53 := Try.sizeOf86
  v53 := Try.zeroValue86
  t146 := Try.underlying84
  a146 := Try.isAgg84
  z146 := Try.sizeOf84
  v146 := Try.zeroValue84
  t148 := Try.underlying87
  a148 := Try.isAgg87
  z148 := Try.sizeOf87
  v148 := Try.zeroValue87 }
theorem mul_one_any (k : Nat) (hk : k ≤ 1000000) (w : World) : Calls Try.prog 67 #[.int .u64 1, .int .u64 k] w fun e w' => e = .returned (.tuple #[.int .u64 0, .int .u64 k]) ∧ w' = w := by
  have h := Any.bits_Mul mulLays 1 k (by omega) (by omega) w
  have e1 : 1 * k / 18446744073709551616 = 0 := by omega
  have e2 : 1 * k % 18446744073709551616 = k := by omega
  rw [e1, e2] at h
  exact h
end Go.Proofs.Ytdildmfjekdlgaa
/- Slices of structs in a block that is known whole: append in place, append of zeros, clear, copy, store. Plain facts over any program. -/
namespace Go.Proofs.Ytdildmfjekdlgaa
open Go.RowKit Go
section
variable {P : Program} {ops : Array Oper} {rest : List Oper} {o : Oper} {a : Act} {Q : Exit → Act → World → Prop}
theorem But.row (g : Nat) (w : World) (cs : Array Value) : But g w (w.setRow g cs) := ⟨rfl, rfl, rfl, (below_setRow (Below.refl g w) (Nat.le_refl _) cs).size, fun _ _ hne => setRow_other _ _ _ _ hne⟩
theorem size_of_info {e : TypeId} {size : Nat} (h : (P.info? e).map (·.size) = some size) : ∃ i0, P.info? e = some i0 ∧ i0.size = size := by
  cases hq : P.info? e with
  | none => rw [hq] at h; cases h
  | some i => rw [hq] at h; exact ⟨i, rfl, by simpa using h⟩
/-- clear of a part of a block. -/
theorem run_clear_row (w : World) (t e : TypeId) (ht : P.underlying t = some (.slice e)) {z : Value} {size : Nat} (hv : ∀ w, (zeroValue e).run P w = .ok z w) (hzs : z.cells.size = size) (hz1 : ∀ n, ∀ u ∈ (Builtin.zeroCells z.cells n).toList, u.oneCell' = true) (g q n c : Nat) (cur : List Value) (hg : w.heap[g]? = some (.cells cur.toArray e (0, 0)))
    (A : Option Addr) (hA : 0 < n → A = some ⟨g, q * size, none⟩) (hfit : (q + n) * size ≤ cur.length) :
    ∃ w' zs, zs.length = n * size ∧ (∀ ty, (Builtin.clear_ #[t] ty #[.slice A n c]).run P w = .ok (.tuple #[]) w') ∧ w'.heap[g]? = some (.cells (cur.take (q * size) ++ zs ++ cur.drop ((q + n) * size)).toArray e (0, 0)) ∧ But g w w' := by
  rcases n with _ | n
  · refine ⟨w, [], by simp, fun ty => ?_, ?_, But.refl _ _⟩
    · rcases A with _ | ad <;> simp [Builtin.clear_, run_underlying ht]
    · rw [List.append_nil, Nat.add_zero, List.take_append_drop]; exact hg
  · have hzl : (Builtin.zeroCells z.cells (n + 1)).toList.length = (n + 1) * size := by rw [Array.length_toList, size_zeroCells, hzs]
    have hfit2 : q * size + (Builtin.zeroCells z.cells (n + 1)).toList.length ≤ cur.toArray.size := by rw [hzl, List.size_toArray, ← Nat.add_mul]; exact hfit
    have hst := run_storeCells_at P g (q * size) e (Builtin.zeroCells z.cells (n + 1)).toList 0 cur.toArray w hg (by simpa using hfit2) (hz1 _)
    simp only [Nat.add_zero] at hst
    refine ⟨_, (Builtin.zeroCells z.cells (n + 1)).toList, hzl, fun ty => ?_, setRow_heap w g _ _ e _ hg, But.row _ _ _⟩
    rw [hA (by omega), show (q + (n + 1)) * size = q * size + (Builtin.zeroCells z.cells (n + 1)).toList.length by rw [hzl, Nat.add_mul]]
    simp [Builtin.clear_, run_underlying ht, hv, hst]
/-- copy into a part of a block. -/
theorem run_copy_rowE (w : World) (t tx e : TypeId) (ht : P.underlying t = some (.slice e)) {size : Nat} (hsz : (P.info? e).map (·.size) = some size) (g q dn dc : Nat) (cur : List Value) (hg : w.heap[g]? = some (.cells cur.toArray e (0, 0)))
    (A : Option Addr) (k c c' : Nat) (cs : List Value) (m : Nat) (hm : m = min k dn) (hrow : Row w A m c' size cs) (h1 : ∀ u ∈ cs, u.oneCell' = true) (hfit : (q + m) * size ≤ cur.length) :
    ∃ w', (∀ ty, (Builtin.copy_ #[t, tx] ty #[.slice (some ⟨g, q * size, none⟩) dn dc, .slice A k c]).run P w = .ok (goInt m) w') ∧ w'.heap[g]? = some (.cells (cur.take (q * size) ++ cs ++ cur.drop ((q + m) * size)).toArray e (0, 0)) ∧ But g w w' := by
  obtain ⟨i0, hi0, rfl⟩ := size_of_info hsz
  have hml : cs.length = m * i0.size := hrow.len
  have hfc : (Builtin.firstCells i0.size m (.slice A k c)).run P w = .ok cs.toArray w := by
    rcases hA : A with _ | ad
    · obtain ⟨rfl, rfl⟩ := hrow.nil hA
      have : cs = [] := List.eq_nil_of_length_eq_zero (by simpa using hrow.len)
      subst this
      exact run_firstCells_none _ _ _ _ _
    · refine run_firstCells_some w i0.size m ad k c _ hml fun j u hj => ?_
      have hj2 : j < m * i0.size := by rw [← hml]; exact (List.getElem?_eq_some_iff.1 hj).1
      have hn : 0 < m := by
        rcases Nat.eq_zero_or_pos m with e1 | e1
        · rw [e1, Nat.zero_mul] at hj2; omega
        · omega
      obtain ⟨b, off, hA', hc⟩ := hrow.form hn
      rw [hA] at hA'; injection hA' with hA'; subst hA'
      rw [Addr.add_lit]
      exact (hc j hj2).trans hj
  have hfit2 : q * i0.size + cs.length ≤ cur.toArray.size := by rw [hml, List.size_toArray, ← Nat.add_mul]; exact hfit
  have hst := run_storeCells_at P g (q * i0.size) e cs 0 cur.toArray w hg (by simpa using hfit2) h1
  simp only [Nat.add_zero] at hst
  refine ⟨_, fun ty => ?_, setRow_heap w g _ (cur.take (q * i0.size) ++ cs ++ cur.drop ((q + m) * i0.size)).toArray e _ hg, But.row _ _ _⟩
  rw [show (q + m) * i0.size = q * i0.size + cs.length by rw [hml, Nat.add_mul]]
  simp [Builtin.copy_, run_underlying ht, sizeOf, typeInfo, hi0, Builtin.lenOf, show Nat.min k dn = m from hm.symm, hfc, hst]
/-- A whole struct stored at a place of a block. -/
theorem wpList_store_partE (w : World) (hgd : o.guard = none) (ty : TypeId) (x y : Operand) (ho : o.op = .store ty x y) (g q off : Nat) (e : TypeId) (cur : List Value) (hg : w.heap[g]? = some (.cells cur.toArray e (0, 0))) (cells : Array Value)
    (hx : a.eval x = .pointer (some ⟨g, off, none⟩)) (hoff : off = q) (hy : a.eval y = .agg cells) (hi : (P.info? ty).map (·.size) = some cells.size) (h1 : ∀ u ∈ cells.toList, u.oneCell' = true) (hfit : q + cells.size ≤ cur.length)
    (h : ∀ w', w'.heap[g]? = some (.cells (cur.take q ++ cells.toList ++ cur.drop (q + cells.size)).toArray e (0, 0)) → But g w w' → w'.heap.size = w.heap.size → wpList P ops Q rest (a.put o.dst undef) w') : wpList P ops Q (o :: rest) a w := by
  subst hoff
  obtain ⟨i0, hi0, hz0⟩ := size_of_info hi
  have hst := run_storeCells_at P g off e cells.toList 0 cur.toArray w hg (by simpa using hfit) h1
  simp only [Nat.add_zero, Array.length_toList] at hst
  have hr : (storeVar ty ⟨g, off, none⟩ (.agg cells)).run P w = .ok () (w.setRow g (cur.take off ++ cells.toList ++ cur.drop (off + cells.size)).toArray) := by
    simp [storeVar, sizeOf, typeInfo, hi0, Value.cells, hz0, hst]
  refine wpList_plain hgd fun K hK => ?_
  unfold Oper.wp execOp
  simp only [ho, hx, hy, Instr.storeAt, Instr.sureAddr, Sem.run_bind, Sem.run_pure, Result.andThen_ok, hr]
  exact hK _ _ (h _ (setRow_heap w g _ _ e _ hg) (But.row _ _ _) (by simp [World.setRow]))
end
end Go.Proofs.Ytdildmfjekdlgaa
/- The walk of slices.Repeat of one number. -/
namespace Go.Proofs.Ytdildmfjekdlgaa
open Go.RowKit
section
variable {P : Program}
theorem run_offI {t e : TypeId} (ht : P.underlying t = some (.slice e)) (hz : (P.info? e).map (·.size) = some 1) {g n c i : Nat} {x : Int} (hx : x = (i : Int)) (hin : i ≤ n) (hic : i < c) (k1 : IntKind) (w : World) :
    (Instr.slice t (.slice (some ⟨g, 0, none⟩) n c) (some (.int k1 x)) none none).run P w = .ok (.slice (some ⟨g, i, none⟩) (n - i) (c - i)) w := by
  rw [run_slice_from ht hz hx hin k1 w]
  unfold dropA
  rw [if_neg (by omega), Option.map_some, Addr.add_lit, Nat.zero_add, Nat.mul_one]
theorem run_lowI {t e : TypeId} (ht : P.underlying t = some (.slice e)) (hz : (P.info? e).map (·.size) = some 1) {g n c i : Nat} {x : Int} (hx : x = (i : Int)) (hic : i ≤ c) (k1 : IntKind) (w : World) :
    (Instr.slice t (.slice (some ⟨g, 0, none⟩) n c) none (some (.int k1 x)) none).run P w = .ok (.slice (some ⟨g, 0, none⟩) i c) w := by
  subst hx
  cases hq : P.info? e with
  | none => rw [hq] at hz; cases hz
  | some ie => simp [Instr.slice, run_underlying ht, Instr.sliceBounds, Instr.sliceBound, asIntOf, sizeOf, typeInfo, hq, hic, Addr.add]
end
/-- k cells, j of them a number, the others zero. -/
def repC (a : Int) (k j : Nat) : List Value := List.replicate j (iv a) ++ List.replicate (k - j) (iv 0)
theorem repC_len (a : Int) {k j : Nat} (h : j ≤ k) : (repC a k j).length = k := by unfold repC; simp; omega
theorem repC_step (a : Int) {k j m : Nat} (h : j + m ≤ k) : (repC a k j).take j ++ List.replicate m (iv a) ++ (repC a k j).drop (j + m) = repC a k (j + m) := by
  unfold repC
  rw [List.take_append_of_le_length (by simp), List.take_of_length_le (by simp), List.drop_append, List.drop_eq_nil_of_le (by simp), List.nil_append, List.drop_replicate, List.length_replicate, List.replicate_append_replicate, show k - j - (j + m - j) = k - (j + m) by omega]
theorem repC_full (a : Int) (k : Nat) : repC a k k = intsV (List.replicate k a) := by unfold repC intsV; rw [Nat.sub_self]; simp
theorem repC_row {w : World} {a : Int} {k j g : Nat} (hg : w.heap[g]? = some (.cells (repC a k j).toArray 3 (0, 0))) {m : Nat} (hm : m ≤ j) (hj : j ≤ k) : Row w (some ⟨g, 0, none⟩) m k 1 (List.replicate m (iv a)) := by
  refine ⟨by simp, by omega, fun h => (by cases h), fun ad hA _ => ?_⟩
  injection hA with hA
  subst hA
  refine ⟨g, 0, rfl, fun i hi => ?_⟩
  rw [Nat.zero_add, cell_of_row _ _ _ _ _ _ hg]
  unfold repC
  rw [List.getElem?_toArray, List.getElem?_append_left (by simp; omega), List.getElem?_replicate, List.getElem?_replicate, if_pos (by omega), if_pos (by omega)]
theorem own_cells {w : World} {B g n : Nat} {xs : List Value} (h : w.ownsRow B 3 1 (.slice (some ⟨g, 0, none⟩) n n) n xs) : w.heap[g]? = some (.cells xs.toArray 3 (0, 0)) := by
  rcases h.2 with ⟨hn, -⟩ | ⟨g2, cap, cur, he, hB, hg, h1, h2, h3, h4⟩
  · cases hn
  · injection he with e1 e2 e3
    injection e1 with e1
    injection e1 with e1
    subst e1 e3
    rw [hg]
    have : cur = xs.toArray := by
      rw [← h4, List.take_of_length_le (by rw [Array.length_toList, h3]; exact Nat.le_refl _)]
    rw [this]

structure AnyX (_a _b : World) : Prop where
  mk ::
theorem AnyX.all (a b : World) : AnyX a b := ⟨⟩
theorem rep_first {w : World} {g k m c : Nat} {a : Int} {A : Option Addr} (HG : w.heap[g]? = some (.cells (List.replicate k (.int .i64 0)).toArray 3 (0, 0))) (hr : IRow w A 1 c [a]) (hm : m ≤ k ∧ (0 < k → 0 < m) ∧ m ≤ 1 ∧ m = min 1 k) :
    ∃ w', (∀ ty, (Builtin.copy_ #[22, 22] ty #[.slice (some ⟨g, 0, none⟩) k k, .slice A 1 c]).run Try.prog w = .ok (goInt m) w') ∧ w'.heap[g]? = some (.cells (repC a k m).toArray 3 (0, 0)) ∧ But g w w' := by
  have hrow : Row w A m c 1 (List.replicate m (iv a)) := by
    have h := Row.take hr m hm.2.2.1
    have e : (intsV [a]).take (m * 1) = List.replicate m (iv a) := by
      rw [Nat.mul_one]
      have : m = 0 ∨ m = 1 := by omega
      rcases this with h | h <;> rw [h] <;> rfl
    rw [e] at h
    exact h
  have e0 : repC a k 0 = List.replicate k (iv 0) := by unfold repC; simp
  obtain ⟨w', h1, h2, h3⟩ := run_copy_rowE (P := Try.prog) w 22 22 3 Try.underlying22 (size := 1) i64_size g 0 k k (repC a k 0) (by rw [e0]; exact HG) A 1 c c (List.replicate m (iv a)) m hm.2.2.2 hrow (fun u hu => by rw [(List.mem_replicate.1 hu).2]; rfl) (by rw [repC_len a (Nat.zero_le _)]; omega)
  simp only [Nat.mul_one] at h1 h2
  refine ⟨w', h1, ?_, h3⟩
  rw [repC_step a (by omega : 0 + m ≤ k), Nat.zero_add] at h2
  exact h2
theorem rep_next {w : World} {g k j m : Nat} {a : Int} (HG : w.heap[g]? = some (.cells (repC a k j).toArray 3 (0, 0))) (hj : j < k) (hm : m = min j (k - j) ∧ 0 < m ∧ j + m ≤ k) :
    ∃ w', (∀ ty, (Builtin.copy_ #[22, 22] ty #[.slice (some ⟨g, j, none⟩) (k - j) (k - j), .slice (some ⟨g, 0, none⟩) j k]).run Try.prog w = .ok (goInt m) w') ∧ w'.heap[g]? = some (.cells (repC a k (j + m)).toArray 3 (0, 0)) ∧ But g w w' := by
  obtain ⟨w', h1, h2, h3⟩ := run_copy_rowE (P := Try.prog) w 22 22 3 Try.underlying22 (size := 1) i64_size g j (k - j) (k - j) (repC a k j) HG (some ⟨g, 0, none⟩) j k k (List.replicate m (iv a)) m hm.1 (repC_row HG (by omega) (by omega)) (fun u hu => by rw [(List.mem_replicate.1 hu).2]; rfl) (by rw [repC_len a (by omega)]; omega)
  simp only [Nat.mul_one] at h1 h2
  rw [repC_step a hm.2.2] at h2
  exact ⟨w', h1, h2, h3⟩
set_option maxRecDepth 100000 in
set_option maxHeartbeats 4000000 in
theorem repeat_any (a : Int) (k : Nat) (hk : k ≤ 100000) (A : Option Addr) (c : Nat) (w : World) (hr : IRow w A 1 c [a]) : Calls Try.prog 63 #[.slice A 1 c, .int .i64 k] w fun e w' => e = .returned (.slice (some ⟨w.heap.size, 0, none⟩) k k) ∧ w'.heap[w.heap.size]? = some (.cells (intsV (List.replicate k a)).toArray 3 (0, 0)) ∧ Below w.heap.size w w' := by
  have HR := Lib.hid hr
  have HM : Hid (∀ y, Calls Try.prog 67 #[.int .u64 1, .int .u64 k] y fun e w' => e = .returned (.tuple #[.int .u64 0, .int .u64 k]) ∧ w' = y) := Lib.hid fun y => mul_one_any k (by omega) y
  clear hr
  have n0 : ¬ (k : Int) < 0 := by omega
  have n1 : IntKind.u64.wrap (k : Int) = (k : Int) := by rw [IntKind.wrap_u64]; omega
  have n2 : IntKind.i64.wrap (k : Int) = (k : Int) := by rw [IntKind.wrap_i64]; omega
  have n3 : decide ((k : Int) > 9223372036854775807) = false := decide_eq_false (by omega)
  have n3' : decide ((9223372036854775807 : Int) < (k : Int)) = false := n3
  go_enter Try.func63, Try.ntmps63
  go_wp2_with fail
  refine (HM.out w).mono ?_
  rintro e w1 ⟨rfl, rfl⟩
  obtain ⟨m, hm⟩ : ∃ m, m = min 1 k := ⟨_, rfl⟩
  have HMK : Hid (m ≤ k ∧ (0 < k → 0 < m) ∧ m ≤ 1 ∧ m = min 1 k) := Lib.hid ⟨by omega, by omega, by omega, hm⟩
  clear hm
  go_wp2_with (at_make; go_must (refine wpList_make _ rfl (.tmp 29) (.tmp 29) 22 3 rfl w1.heap.size Try.underlying22 i64_info rfl k k rfl rfl rfl rfl (Nat.le_refl _) (by omega) (by unfold maxLen; omega) (Nat.le_refl _) ?_); intro w2 ho hb; have hcp := rep_first (HG := own_cells ho) (IRow.later HR.out hb) HMK.out; obtain ⟨w3, hcp, hg3, hb3⟩ := hcp; have HG := Lib.hid hg3; have HB : Hid (Below w1.heap.size w1 w3) := Lib.hid (hb.trans (hb3.below (Nat.le_refl _) hb.size)); clear ho hb hg3 hb3)
  clear hcp
  obtain ⟨g, hgg⟩ : ∃ g, w1.heap.size = g := ⟨_, rfl⟩
  rw [hgg] at HG HB ⊢
  have HGG := Lib.hid hgg
  clear hgg
  go_loopw [8] (fun i wr => ∃ j : Nat, j ≤ k ∧ i = .int .i64 j ∧ Hid ((0 < k → 0 < j) ∧ wr.heap[g]? = some (.cells (repC a k j).toArray 3 (0, 0)) ∧ Below g w1 wr)) (fun i _ => k - (intOf i).toNat)
  case atStart => exact ⟨m, HMK.out.1, rfl, Lib.hid ⟨HMK.out.2.1, HG.out, HB.out⟩⟩
  case round =>
    clear HB HG HMK
    obtain ⟨j, hj, rfl, HQ⟩ := hrel
    by_cases hlt : j < k
    · have hlt2 : (j : Int) < (k : Int) := by omega
      have hj0 : 0 < j := HQ.out.1 (by omega)
      obtain ⟨m2, hm2⟩ : ∃ m2, m2 = min j (k - j) := ⟨_, rfl⟩
      have HM2 : Hid (m2 = min j (k - j) ∧ 0 < m2 ∧ j + m2 ≤ k) := Lib.hid ⟨hm2, by omega, by omega⟩
      clear hm2
      go_upto_region 9 with fail
      refine wp_region_grow (by kernel_rfl) AnyX (fun _ => AnyX.all _ _) (fun _ _ _ _ _ => AnyX.all _ _) [8, 9] [([0, 1, 2, 3, 4, 5, 6], 7)] (by kernel_rfl) (by kernel_rfl) (by kernel_rfl) ?_
      simp only [List.map_cons, List.map_nil, pick, List.getD_cons_zero, List.getD_cons_succ]
      have HG1 : Hid (wr.drew.heap[g]? = some (.cells (repC a k j).toArray 3 (0, 0))) := Lib.hid HQ.out.2.1
      have HB1 : Hid (Below g w1 wr.drew) := Lib.hid HQ.out.2.2.drew
      clear HQ
      generalize wr.drew = z0 at *
      have hsa := fun w' => run_offI (P := Try.prog) (t := 22) Try.underlying22 i64_size (g := g) (n := k) (c := k) (i := j) (x := (j : Int)) rfl hj hlt .i64 w'
      have hsb := fun w' => run_lowI (P := Try.prog) (t := 22) Try.underlying22 i64_size (g := g) (n := k) (c := k) (i := j) (x := (j : Int)) rfl hj .i64 w'
      refine wpGrow_cons ?_
      repeat (go_big_quiet_step (fail))
      refine wpQuiet_nil ?_
      clear hsa hsb
      obtain ⟨z1, hcp, hg3, hb3⟩ := rep_next HG1.out hlt HM2.out
      have HG2 := Lib.hid hg3
      have HB2 : Hid (Below g w1 z1) := Lib.hid (HB1.out.trans (hb3.below (Nat.le_refl _) (Nat.le_of_lt (Array.getElem?_eq_some_iff.1 HG1.out).1)))
      clear hg3 hb3
      go_wp2_with fail
      clear hcp
      refine pieceEnd_normal ⟨AnyX.all _ _, ?_⟩
      have h2 := HM2.out.2.2
      have h3 := HM2.out.2.1
      have n5 : IntKind.i64.wrap ((j : Int) + (m2 : Int)) = (j : Int) + (m2 : Int) := by rw [IntKind.wrap_i64]; omega
      have n6 : RowKit.wrap64 ((j : Int) + (m2 : Int)) = (j : Int) + (m2 : Int) := IntWalk.wrap64_in _ (by omega)
      refine wpGrow_nil ?_
      repeat (go_big_quiet_step (fail))
      refine wpQuiet_nil ?_
      go_wp2_with fail
      exact ⟨⟨j + m2, h2, by first | rfl | (refine congrArg _ ?_; omega), Lib.hid ⟨fun _ => by omega, HG2.out, HB2.out⟩⟩, by simp [intOf]; omega⟩
    · have hlt2 : ¬ (j : Int) < (k : Int) := by omega
      have hjk : j = k := by omega
      subst hjk
      have HG1 := Lib.hid HQ.out.2.1
      have HB1 := Lib.hid HQ.out.2.2
      clear HQ
      go_wp2_with fail
      go_ret
      rw [HGG.out]
      refine ⟨rfl, ?_, HB1.out⟩
      rw [← repC_full]
      exact HG1.out
end Go.Proofs.Ytdildmfjekdlgaa
/- What the search of distance keeps in memory. Plain facts. -/
namespace Go.Proofs.Ytdildmfjekdlgaa
open Go.RowKit
theorem outS_asc {es : List Edg} (h : es.Pairwise ltE) (key : Int) : (outS es key).Pairwise (· < ·) := by
  induction es with
  | nil => exact List.Pairwise.nil
  | cons e es ih =>
    have h1 := List.pairwise_cons.1 h
    show (((if e.fr = key then [e.tu] else []) ++ outS es key)).Pairwise (· < ·)
    refine List.pairwise_append.2 ⟨by split <;> simp, ih h1.2, fun a ha b hb => ?_⟩
    split at ha
    · rename_i hf
      rw [List.mem_singleton.1 ha]
      obtain ⟨x, hx, x1, x2⟩ := outS_mem.1 hb
      have := h1.1 x hx
      unfold ltE at this
      omega
    · exact nomatch ha
theorem dAt_cell {d : List Int} {k : Nat} (h : k < d.length) : d.getD k 0 = dAt d (k : Int) := by
  unfold dAt
  rw [Int.toNat_natCast, List.getD_eq_getElem?_getD, List.getD_eq_getElem?_getD, List.getElem?_eq_getElem h]; rfl
/-- Zero at some places. -/
def zeroD (d : List Int) (l : List Int) : List Int := l.foldl (fun d k => d.set k.toNat 0) d
theorem zeroD_len : ∀ (l d : List Int), (zeroD d l).length = d.length
  | [], _ => rfl
  | k :: l, d => by
    show (zeroD (d.set k.toNat 0) l).length = _
    rw [zeroD_len l, List.length_set]
theorem zeroD_snoc (d l : List Int) (j : Nat) (h : j < l.length) : zeroD d (l.take (j + 1)) = (zeroD d (l.take j)).set (l.getD j 0).toNat 0 := by
  unfold zeroD
  rw [List.take_add_one, List.getElem?_eq_getElem h, List.foldl_append, List.getD_eq_getElem?_getD, List.getElem?_eq_getElem h]
  rfl
theorem zeroD_at : ∀ (l d : List Int), (∀ k ∈ l, 0 ≤ k ∧ k < d.length) → ∀ k : Int, 0 ≤ k → dAt (zeroD d l) k = if k ∈ l then 0 else dAt d k
  | [], d, _, k, _ => by rw [if_neg (by simp)]; rfl
  | a :: l, d, h, k, k0 => by
    have ha := h a (List.mem_cons_self ..)
    show dAt (zeroD (d.set a.toNat 0) l) k = _
    rw [zeroD_at l _ (fun x hx => by rw [List.length_set]; exact h x (List.mem_cons_of_mem _ hx)) k k0]
    by_cases hk : k ∈ l
    · rw [if_pos hk, if_pos (List.mem_cons_of_mem _ hk)]
    · rw [if_neg hk, dAt_set (by omega)]
      by_cases e : k = a
      · rw [if_pos (by rw [e]), if_pos (by rw [e]; exact List.mem_cons_self ..)]
      · rw [if_neg (by omega), if_neg (by rw [List.mem_cons]; exact fun q => q.elim e hk)]
theorem dAt_rep {z : Nat} {k : Int} (v : Int) (hv : v = -1) : dAt (List.replicate z v) k = -1 := by
  unfold dAt
  rw [List.getD_eq_getElem?_getD, List.getElem?_replicate]
  split
  · exact hv
  · rfl
/-- The queue's keys from place h on. -/
def keysQ (T : List Qd) (h : Nat) : List Int := (T.drop h).map (·.k)
theorem keysQ_len (T : List Qd) (h : Nat) : (keysQ T h).length = T.length - h := by unfold keysQ; rw [List.length_map, List.length_drop]
theorem keysQ_cons {T : List Qd} {h : Nat} (hh : h < T.length) : keysQ T h = qk T h :: keysQ T (h + 1) := by
  unfold keysQ qk
  rw [List.drop_eq_getElem_cons hh, List.map_cons, List.getD_eq_getElem?_getD, List.getElem?_eq_getElem hh]; rfl
theorem keysQ_snoc {T : List Qd} {h : Nat} (hh : h ≤ T.length) (p : Qd) : keysQ (T ++ [p]) h = keysQ T h ++ [p.k] := by
  unfold keysQ
  rw [List.drop_append_of_le_length hh, List.map_append]; rfl
theorem keysQ_seeds (l : List Int) : keysQ (seedsQ l) 0 = l := by
  unfold keysQ seedsQ
  rw [List.drop_zero, List.map_map]
  exact List.map_id l
theorem Srch.dle {z : Nat} {es : List Edg} {sd : Int → Bool} {h : Nat} {p : List Int} {T : List Qd} {d bf : List Int} (S : Srch z es sd h p T d bf) : ∀ x, x < T.length → dAt d (qk T x) ≤ x := by
  intro x
  induction x using Nat.strongRecOn with
  | _ x ih =>
    intro hx
    rcases Nat.eq_zero_or_pos (qb T x) with q | q
    · rw [(S.seed x hx q).2]; omega
    · obtain ⟨a, -, -, -, r, -⟩ := S.prev x hx (qb T x - 1) (by omega)
      have := ih (qb T x - 1) a (by omega)
      omega
/-- What the search's memory holds: distances, keys before, the queue. -/
structure SMem (y0 : World) (B gd gb : Nat) (d bf : List Int) (v : Value) (xs : List Int) (w : World) : Prop where
  base : Below B y0 w
  size : B ≤ w.heap.size
  ds : IBlk w gd d
  bs : IBlk w gb bf
  q : QOwn w B v xs.length (intsV xs)
  hd : B ≤ gd
  hb : B ≤ gb
  ne : gd ≠ gb
  qd : v.ownBlock ≠ some gd
  qb : v.ownBlock ≠ some gb
section
variable {y0 : World} {B gd gb : Nat} {d bf : List Int} {v : Value} {xs : List Int} {w : World}
theorem SMem.later (h : SMem y0 B gd gb d bf v xs w) {w' : World} (hb : Below w.heap.size w w') : SMem y0 B gd gb d bf v xs w' :=
  { h with
    base := h.base.trans (hb.mono h.size)
    size := Nat.le_trans h.size hb.size
    ds := h.ds.later hb
    bs := h.bs.later hb
    q := h.q.keep fun k hk => hb.block k (h.q.lt k hk).2 }
theorem SMem.setd (h : SMem y0 B gd gb d bf v xs w) (k : Nat) (u : Int) : SMem y0 B gd gb (d.set k u) bf v xs (w.setCell ⟨gd, k, none⟩ (.int .i64 u)) :=
  { h with
    base := h.base.setCell (p := ⟨gd, k, none⟩) h.hd _
    size := by simpa using h.size
    ds := h.ds.set k u
    bs := h.bs.keep (Below.heap_setCell _ _ _ _ (Ne.symm h.ne))
    q := h.q.keep fun q hq => Below.heap_setCell _ _ _ _ (fun e => h.qd (by rw [hq, e])) }
theorem SMem.setb (h : SMem y0 B gd gb d bf v xs w) (k : Nat) (u : Int) : SMem y0 B gd gb d (bf.set k u) v xs (w.setCell ⟨gb, k, none⟩ (.int .i64 u)) :=
  { h with
    base := h.base.setCell (p := ⟨gb, k, none⟩) h.hb _
    size := by simpa using h.size
    ds := h.ds.keep (Below.heap_setCell _ _ _ _ h.ne)
    bs := h.bs.set k u
    q := h.q.keep fun q hq => Below.heap_setCell _ _ _ _ (fun e => h.qb (by rw [hq, e])) }
theorem SMem.app (h : SMem y0 B gd gb d bf v xs w) {x : Int} {v' : Value} {w' : World} (hq : QOwn w' B v' (xs.length + 1) (intsV xs ++ #[Value.int .i64 x].toList)) (hb : Below B w w') (hk : ∀ k, k < w.heap.size → v.ownBlock ≠ some k → w'.heap[k]? = w.heap[k]?)
    (ho : v'.ownBlock = v.ownBlock ∨ ∃ k, w.heap.size ≤ k ∧ v'.ownBlock = some k) : SMem y0 B gd gb d bf v' (xs ++ [x]) w' :=
  { h with
    base := h.base.trans hb
    size := Nat.le_trans h.size hb.size
    ds := h.ds.keep (hk gd h.ds.lt h.qd)
    bs := h.bs.keep (hk gb h.bs.lt h.qb)
    q := by
      rw [List.length_append, intsV_app]
      exact hq
    qd := by
      rcases ho with e | ⟨k, hk1, e⟩
      · rw [e]; exact h.qd
      · rw [e]; intro q; injection q with q; have := h.ds.lt; omega
    qb := by
      rcases ho with e | ⟨k, hk1, e⟩
      · rw [e]; exact h.qb
      · rw [e]; intro q; injection q with q; have := h.bs.lt; omega }
theorem SMem.tail {A : Option Addr} {n c : Nat} {x : Int} (h : SMem y0 B gd gb d bf (.slice A (n + 1) c) (x :: xs) w) (hn : xs.length = n) : SMem y0 B gd gb d bf (.slice (dropA A c 1 1) n (c - 1)) xs w := by
  have h1 := h.q
  rw [show (x :: xs).length = n + 1 by rw [List.length_cons, hn]] at h1
  obtain ⟨h2, h3⟩ := h1.tail
  exact { h with
    q := by rw [hn]; exact h2
    qd := by rw [h3]; exact h.qd
    qb := by rw [h3]; exact h.qb }
end
/-- .. and besides the neighbours of a key. -/
structure SMemO (y0 : World) (B gd gb : Nat) (d bf : List Int) (v : Value) (xs : List Int) (vo : Value) (O : List Int) (w : World) : Prop where
  mem : SMem y0 B gd gb d bf v xs w
  o : w.ownsRow B 3 1 vo O.length (intsV O)
  ap : ∀ k, vo.ownBlock = some k → k ≠ gd ∧ k ≠ gb ∧ v.ownBlock ≠ some k
section
variable {y0 : World} {B gd gb : Nat} {d bf : List Int} {v vo : Value} {xs O : List Int} {w : World}
theorem SMemO.setd (h : SMemO y0 B gd gb d bf v xs vo O w) (k : Nat) (u : Int) : SMemO y0 B gd gb (d.set k u) bf v xs vo O (w.setCell ⟨gd, k, none⟩ (.int .i64 u)) :=
  ⟨h.mem.setd k u, own_keepL h.o fun q hq => Below.heap_setCell _ _ _ _ (h.ap q hq).1, h.ap⟩
theorem SMemO.setb (h : SMemO y0 B gd gb d bf v xs vo O w) (k : Nat) (u : Int) : SMemO y0 B gd gb d (bf.set k u) v xs vo O (w.setCell ⟨gb, k, none⟩ (.int .i64 u)) :=
  ⟨h.mem.setb k u, own_keepL h.o fun q hq => Below.heap_setCell _ _ _ _ (h.ap q hq).2.1, h.ap⟩
theorem SMemO.app (h : SMemO y0 B gd gb d bf v xs vo O w) {x : Int} {v' : Value} {w' : World} (hq : QOwn w' B v' (xs.length + 1) (intsV xs ++ #[Value.int .i64 x].toList)) (hb : Below B w w') (hk : ∀ k, k < w.heap.size → v.ownBlock ≠ some k → w'.heap[k]? = w.heap[k]?)
    (ho : v'.ownBlock = v.ownBlock ∨ ∃ k, w.heap.size ≤ k ∧ v'.ownBlock = some k) : SMemO y0 B gd gb d bf v' (xs ++ [x]) vo O w' :=
  ⟨h.mem.app hq hb hk ho, own_keepL h.o fun q hq2 => hk q (own_lt h.o q hq2) (h.ap q hq2).2.2, fun q hq2 => ⟨(h.ap q hq2).1, (h.ap q hq2).2.1, by
    rcases ho with e | ⟨k, hk1, e⟩
    · rw [e]; exact (h.ap q hq2).2.2
    · rw [e]; intro e2; injection e2 with e2; have := own_lt h.o q hq2; omega⟩⟩
end
/-- What a search gives. -/
def GivesSr (G : Gr) (seeds : List Int) (w : World) (e : Ending) (w' : World) : Prop := ∃ gd gb d bf T, e = .returned (.tuple #[.slice (some ⟨gd, 0, none⟩) G.sz.toNat G.sz.toNat, .slice (some ⟨gb, 0, none⟩) G.sz.toNat G.sz.toNat]) ∧ IBlk w' gd d ∧ IBlk w' gb bf ∧ Srch G.sz.toNat G.es (seedB G.gn seeds) T.length [] T d bf ∧ w.heap.size ≤ gd ∧ w.heap.size ≤ gb ∧ gd ≠ gb ∧ Below w.heap.size w w'
end Go.Proofs.Ytdildmfjekdlgaa
/- The walk of slices.Reverse. -/
namespace Go.Proofs.Ytdildmfjekdlgaa
open Go.RowKit
/-- A list of which i elements at each end have changed places. -/
structure RevI (L : List Int) (i : Nat) (M : List Int) : Prop where
  len : M.length = L.length
  at_ : ∀ k, k < L.length → M.getD k 0 = if k < i ∨ L.length - i ≤ k then L.getD (L.length - 1 - k) 0 else L.getD k 0
theorem RevI.zero (L : List Int) : RevI L 0 L := ⟨rfl, fun k hk => by rw [if_neg (by omega)]⟩
theorem getD_set (l : List Int) (i : Nat) (v : Int) (hi : i < l.length) (k : Nat) : (l.set i v).getD k 0 = if i = k then v else l.getD k 0 := by
  rw [List.getD_eq_getElem?_getD, List.getElem?_set, List.getD_eq_getElem?_getD]
  split
  · first | (rw [if_pos hi]; rfl) | rfl
  · rfl
theorem RevI.step {L : List Int} {i : Nat} {M : List Int} (h : RevI L i M) (hi : i + i + 1 < L.length) : RevI L (i + 1) ((M.set i (M.getD (L.length - 1 - i) 0)).set (L.length - 1 - i) (M.getD i 0)) := by
  refine ⟨by rw [List.length_set, List.length_set]; exact h.len, fun k hk => ?_⟩
  rw [getD_set _ _ _ (by rw [List.length_set, h.len]; omega), getD_set _ _ _ (by rw [h.len]; omega), h.at_ i (by omega), h.at_ (L.length - 1 - i) (by omega), h.at_ k hk]
  rw [if_neg (c := i < i ∨ L.length - i ≤ i) (by omega), if_neg (c := L.length - 1 - i < i ∨ L.length - i ≤ L.length - 1 - i) (by omega)]
  by_cases h1 : L.length - 1 - i = k
  · rw [if_pos h1, if_pos (by omega)]
    congr 1; omega
  · rw [if_neg h1]
    by_cases h2 : i = k
    · subst h2
      rw [if_pos rfl, if_pos (by omega)]
    · rw [if_neg h2]
      by_cases h3 : k < i ∨ L.length - i ≤ k
      · rw [if_pos h3, if_pos (by omega)]
      · rw [if_neg h3, if_neg (by omega)]
theorem RevI.done {L : List Int} {i : Nat} {M : List Int} (h : RevI L i M) (hi : L.length ≤ i + i + 1) : M = L.reverse := by
  apply List.ext_getElem
  · rw [h.len, List.length_reverse]
  · intro k h1 h2
    have h3 := h.at_ k (by rw [← h.len]; exact h1)
    have hkl : k < L.length := by rw [← h.len]; exact h1
    rw [List.getD_eq_getElem?_getD, List.getElem?_eq_getElem h1, List.getElem_reverse] at *
    have h4 : M[k] = if k < i ∨ L.length - i ≤ k then L.getD (L.length - 1 - k) 0 else L.getD k 0 := h3
    rw [h4, List.getD_eq_getElem?_getD, List.getElem?_eq_getElem (by omega), List.getD_eq_getElem?_getD, List.getElem?_eq_getElem hkl]
    split
    · rfl
    · have : L.length - 1 - k = k := by omega
      simp only [this]; rfl
theorem own_i {w : World} {B g n cap : Nat} {xs : List Int} (h : w.ownsRow B 3 1 (.slice (some ⟨g, 0, none⟩) n cap) n (intsV xs)) {i : Nat} (hi : i < n) : w.cell? ⟨g, i, none⟩ = some (.int .i64 (xs.getD i 0)) ∧ w.frozen? ⟨g, i, none⟩ = false := by
  have hl : xs.length = n := by have := h.1; rw [intsV_len, Nat.mul_one] at this; exact this
  exact ⟨by rw [h.cellAt i (by omega), intsV_get _ _ (by omega)]; rfl, h.frozenAt i⟩
theorem own_someI {w : World} {B : Nat} {e : TypeId} {sz : Nat} {v : Value} {n : Nat} {xs : List Value} (h : w.ownsRow B e sz v n xs) (hn : 0 < n) : ∃ g c, v = .slice (some ⟨g, 0, none⟩) n c := by
  rcases h.2 with ⟨_, h0⟩ | ⟨g, cap, cur, rfl, _⟩
  · omega
  · exact ⟨g, cap, rfl⟩
theorem own_rowI12 {w : World} {B : Nat} {A : Option Addr} {n c : Nat} {l : List Int} (h : w.ownsRow B 3 1 (.slice A n c) n (intsV l)) : IRow w A n c l := by
  obtain ⟨A7, c7, he, hr⟩ := Row.of_own h
  injection he with e1 e2 e3
  subst e1 e3
  exact hr
theorem own_seti {w : World} {B g n cap : Nat} {xs : List Int} (h : w.ownsRow B 3 1 (.slice (some ⟨g, 0, none⟩) n cap) n (intsV xs)) (i : Nat) (u : Int) : (w.setCell ⟨g, i, none⟩ (.int .i64 u)).ownsRow B 3 1 (.slice (some ⟨g, 0, none⟩) n cap) n (intsV (xs.set i u)) := by
  have h1 := (h.stored i (.int .i64 u)).1
  unfold intsV at h1 ⊢
  rw [List.map_set]
  exact h1
end Go.Proofs.Ytdildmfjekdlgaa
