import Derived.Test.YtnmpbjgccbnomaaGreatPackAD
import Derived.Test.YtnmpbjgccbnomaaGreatPackAI
import Derived.Test.YtnmpbjgccbnomaaGreatRefSameP
import Derived.Test.YtnmpbjgccbnomaaGreatPackAC
/- The walk of trustflowlaw06.agree. -/
namespace Go.Proofs.YtnmpbjgccbnomaaGreat
open Go.RowKit
/-- A block is loaded whole in a region that draws its order. -/
theorem wpQuiet_load {P : Program} {ops : Array Oper} {C : World → Prop} {Q : Act → Prop} {a : Act} {o : Oper} {rest : List Oper} (hw : Region.wanted o (yielded ops a.tmps) = true) (ty : TypeId) (x : Operand) (ho : o.op = .load ty x) (ad : Addr)
    (hx : a.eval x = .pointer (some ad)) (v : Value) (hl : ∀ w, C w → (loadVar ty ad).run P w = .ok v w) (h : wpQuiet P ops C Q rest (a.put o.dst v)) : wpQuiet P ops C Q (o :: rest) a :=
  BigFrame.wpQuiet_want hw fun K hK => ⟨v, fun w hC => by
    unfold Oper.quietAt
    have hr : (execOp a.eval o).run P w = .ok (.value v) w := by
      unfold execOp
      simp only [ho, hx, Instr.loadAt, Instr.sureAddr, Sem.run_bind, Sem.run_pure, Result.andThen_ok, hl w hC]
    rw [hr]
    exact ⟨rfl, rfl⟩, hK _ h⟩
end Go.Proofs.YtnmpbjgccbnomaaGreat
/- Contracts over a statement and where its lists lie. -/
namespace Go.Proofs.YtnmpbjgccbnomaaGreat
open Go.RowKit
/-- The contracts over a statement and where its lists lie. -/
theorem Pl.n_le {w : World} {p : Pl} (h : PlOk w p) (hs : Small p.s) : p.n ≤ 1000 ∧ p.m ≤ 1000 := ⟨by rw [← h.1.len]; exact hs.list, by rw [← h.2.len]; exact hs.pins⟩
/-- Its lists are short. -/
structure Few (s : Stm) : Prop where
  list : s.list.length ≤ 1000
  pins : s.pins.length ≤ 1000
theorem Small.few {s : Stm} (h : Small s) : Few s := ⟨h.list, h.pins⟩
theorem Pl.n_few {w : World} {p : Pl} (h : PlOk w p) (hs : Few p.s) : p.n ≤ 1000 ∧ p.m ≤ 1000 := ⟨by rw [← h.1.len]; exact hs.list, by rw [← h.2.len]; exact hs.pins⟩
/-- A call that gives a statement whose lists lie in blocks that it has made. -/
def GivesP (w : World) (s : Stm) (e : Ending) (w' : World) : Prop := ∃ q : Pl, e = .returned (.agg q.arr) ∧ q.s = s ∧ PlOk w' q ∧ (∀ ad, q.A = some ad → w.heap.size ≤ ad.block) ∧ (∀ ad, q.B = some ad → w.heap.size ≤ ad.block) ∧ Below w.heap.size w w'
theorem GivesS.p {w w' : World} {s : Stm} {e : Ending} (h : GivesS w s e w') : GivesP w s e w' := by
  obtain ⟨A, n, c, B, m, k, he, h1, h2, h3, h4, h5⟩ := h
  exact ⟨⟨s, A, n, c, B, m, k⟩, he, rfl, ⟨h1, h2⟩, fun ad hA => (h3 ad hA).1, fun ad hA => (h4 ad hA).1, h5⟩
/-- What is in blocks of its own is clear of a slice that was there before. -/
theorem clear_new {w : World} {q : Pl} {v : Value} (h1 : ∀ ad, q.A = some ad → w.heap.size ≤ ad.block) (h2 : ∀ ad, q.B = some ad → w.heap.size ≤ ad.block) (hv : ∀ k, v.ownBlock = some k → k < w.heap.size) : Clear v q :=
  ⟨fun ad hA _ e => by have := h1 ad hA; have := hv _ e; omega, fun ad hA _ e => by have := h2 ad hA; have := hv _ e; omega⟩
theorem copyP_few (p : Pl) (w : World) (hp : PlOk w p) (hs : Few p.s) : Calls Tryz.prog 44 #[.agg p.arr] w (GivesP w p.s) :=
  (copy_any p.s p.A p.n p.c p.B p.m p.k w hp.1 hp.2 (Pl.n_few hp hs).1 (Pl.n_few hp hs).2).mono fun _ _ h => GivesS.p h
theorem sameP_few (p q : Pl) (w : World) (hp : PlOk w p) (hq : PlOk w q) (hs : Few p.s) : Calls Tryz.prog 65 #[.agg p.arr, .agg q.arr] w (SaysL (.bool (sameS p.s q.s)) w) :=
  refSame_any p.s p.A p.n p.c p.B p.m p.k q.s q.A q.n q.c q.B q.m q.k w hp.1 hp.2 hq.1 hq.2 (by have := Pl.n_few hp hs; omega) (by have := Pl.n_few hp hs; omega)
theorem copyP_any (p : Pl) (w : World) (hp : PlOk w p) (hs : Small p.s) : Calls Tryz.prog 44 #[.agg p.arr] w (GivesP w p.s) :=
  (copy_any p.s p.A p.n p.c p.B p.m p.k w hp.1 hp.2 (Pl.n_le hp hs).1 (Pl.n_le hp hs).2).mono fun _ _ h => GivesS.p h
theorem sealP_any (p : Pl) (w : World) (hp : PlOk w p) (hs : Small p.s) : Calls Tryz.prog 70 #[.agg p.arr] w (GivesP w (sealOf p.s)) :=
  (refSeal_any p.s p.A p.n p.c p.B p.m p.k w hp.1 hp.2 hs).mono fun _ _ h => GivesS.p h
theorem checkP_any (p : Pl) (w : World) (hp : PlOk w p) (hs : Small p.s) : Calls Tryz.prog 63 #[.agg p.arr] w (SaysL (.int .i64 (checkV p.s)) w) :=
  refCheck_any p.s p.A p.n p.c p.B p.m p.k w hp.1 hp.2 (by have := Pl.n_le hp hs; omega) (by have := Pl.n_le hp hs; omega) (by have := hs.body; omega)
theorem sealedP_any (p : Pl) (w : World) (hp : PlOk w p) (hs : Small p.s) : Calls Tryz.prog 64 #[.agg p.arr] w (SaysL (.bool (sealedB p.s)) w) :=
  refSealed_any p.s p.A p.n p.c p.B p.m p.k w hp.1 hp.2 hs
theorem digestP_any (p : Pl) (w : World) (hp : PlOk w p) (hs : Small p.s) : Calls Tryz.prog 66 #[.agg p.arr] w (SaysL (.string (digS p.s)) w) :=
  refDigest_any p.s p.A p.n p.c p.B p.m p.k w hp.1 hp.2 hs
theorem sameP_any (p q : Pl) (w : World) (hp : PlOk w p) (hq : PlOk w q) (hs : Small p.s) : Calls Tryz.prog 65 #[.agg p.arr, .agg q.arr] w (SaysL (.bool (sameS p.s q.s)) w) :=
  refSame_any p.s p.A p.n p.c p.B p.m p.k q.s q.A q.n q.c q.B q.m q.k w hp.1 hp.2 hq.1 hq.2 (by have := Pl.n_le hp hs; omega) (by have := Pl.n_le hp hs; omega)
theorem fold13 (p : Pl) : Array.foldl (fun (cs : Array Value) (x : Value × Nat) => cs.setIfInBounds x.snd x.fst) #[.int .i64 0, .int .i64 0, .string ⟨#[]⟩, .int .i64 0, .int .i64 0, .int .i64 0, .int .i64 0, .int .i64 0, .slice none 0 0, .slice none 0 0, .string ⟨#[]⟩, .int .i64 0, .string ⟨#[]⟩] p.arr.zipIdx 0 p.arr.size = p.arr := by kernel_rfl
/-- Cells that lie somewhere, loaded as one value in every world that may come. -/
theorem cells_futs {F : World → World → Prop} {W : World} {b off : Nat} {p : Pl} (h : ∀ x j, j < p.arr.size → (fut F W x).cell? ⟨b, off + j, none⟩ = p.arr[j]?) (x : World) : (loadVar 48 ⟨b, off, none⟩).run Tryz.prog (fut F W x) = .ok (.agg p.arr) (fut F W x) :=
  run_loadVar_cells _ b off 48 p.arr _ Tryz.underlying48 rfl p.info (h x)
end Go.Proofs.YtnmpbjgccbnomaaGreat
/- The walk of the reference's CopyList. -/
namespace Go.Proofs.YtnmpbjgccbnomaaGreat
open Go.RowKit
set_option maxRecDepth 100000 in
set_option maxHeartbeats 4000000 in
theorem copyList_few (A : Option Addr) (n c : Nat) (l : List Pl) (w : World) (hl : LRow w A n c l) (hn : n ≤ 100000) (hs : ∀ p ∈ l, Few p.s) :
    Calls Tryz.prog 68 #[.slice A n c] w fun e w' => ∃ v l', e = .returned v ∧ l'.map (·.s) = l.map (·.s) ∧ LOwn w' w.heap.size v l' ∧ (∀ p ∈ l', (∀ ad, p.A = some ad → w.heap.size ≤ ad.block) ∧ (∀ ad, p.B = some ad → w.heap.size ≤ ad.block)) ∧ Below w.heap.size w w' := by
  have HL := Lib.hid hl; have HLN := Lib.hid hl.len; have HS := Lib.hid hs
  clear hl hs
  go_enter Tryz.func68, Tryz.ntmps68
  go_wp2_with fail
  go_loopw [3, 4] (fun v i wr => ∃ (j : Nat) (l' : List Pl), j ≤ n ∧ i = .int .i64 j ∧ Hid (LOwn wr w.heap.size v l' ∧ l'.map (·.s) = (l.take j).map (·.s) ∧ (∀ p ∈ l', (∀ ad, p.A = some ad → w.heap.size ≤ ad.block) ∧ (∀ ad, p.B = some ad → w.heap.size ≤ ad.block)) ∧ Below w.heap.size w wr)) (fun _ i _ => n - (intOf i).toNat)
  case atStart => exact ⟨0, [], Nat.zero_le _, rfl, Lib.hid ⟨LOwn.nil _ _, rfl, fun _ h => (nomatch h), Below.refl _ _⟩⟩
  case round =>
    obtain ⟨j, l', hj, rfl, HQ⟩ := hrel
    by_cases hlt : j < n
    · have HLJ := Lib.hid (HL.out.later HQ.out.2.2.2)
      obtain ⟨b, off, hA, hc⟩ := HLJ.out.cells j hlt
      subst hA
      have HOK := Lib.hid (HLJ.out.at j hlt); have HSM := Lib.hid (HS.out _ (HL.out.get j hlt))
      have HT : Hid ((l.take (j + 1)).map (·.s) = (l.take j).map (·.s) ++ [(l.getD j noPl).s]) := Lib.hid (by
        rw [List.take_add_one, List.map_append, List.getElem?_eq_getElem (by rw [HLN.out]; exact hlt), List.getD_eq_getElem?_getD, List.getElem?_eq_getElem (by rw [HLN.out]; exact hlt)]; rfl)
      have HC := Lib.hid hc
      clear hc HLJ
      generalize l.getD j noPl = p at *
      have hlt2 : (j : Int) < (n : Int) := by omega
      go_wp2_with (refine wpList_load_cells rfl 48 (.tmp 14) rfl b (off + j * 13) rfl p.arr _ Tryz.underlying48 rfl p.info HC.out ?_)
      refine (copyP_few p wr HOK.out HSM.out).mono ?_
      rintro e w2 ⟨q, rfl, hqs, hqo, hna, hnb, hb⟩
      have HQS := Lib.hid hqs; have HQO := Lib.hid hqo
      have HCL := Lib.hid (clear_new (q := q) hna hnb (own_lt HQ.out.1.own))
      have HO2 := Lib.hid (HQ.out.1.later hb); have HB2 := Lib.hid (HQ.out.2.2.2.trans (hb.mono HQ.out.2.2.2.size)); have HM2 := Lib.hid HQ.out.2.1
      have HHI : Hid (∀ p ∈ l' ++ [q], (∀ ad, p.A = some ad → w.heap.size ≤ ad.block) ∧ (∀ ad, p.B = some ad → w.heap.size ≤ ad.block)) := Lib.hid fun p hp => by
        rcases List.mem_append.1 hp with hp | hp
        · exact HQ.out.2.2.1 p hp
        · rw [List.mem_singleton.1 hp]; have hsz := HQ.out.2.2.2.size; exact ⟨fun ad e => Nat.le_trans hsz (hna ad e), fun ad e => Nat.le_trans hsz (hnb ad e)⟩
      have HLE : Hid (l'.length ≤ n) := Lib.hid (by have h := congrArg List.length HQ.out.2.1; simp only [List.length_map, List.length_take] at h; omega)
      clear hqs hqo hna hnb hb HQ HC HOK HSM
      have hle := HLE.out
      have hvs : q.arr.size = 13 := rfl
      go_wp2_with (at_builtin; (first | rw [fold13] | (rw [← hvs, fold13])); go_must (refine wpList_app_newK w2 rfl (.tmp 11) (.tmp 17) 27 48 rfl w.heap.size Tryz.underlying27 stm_info rfl _ l'.length (plsC l') HO2.out.own rfl 1 q.arr rfl q.ones rfl rfl (by unfold maxLen; omega) (by omega) HB2.out.size ?_); intro x3 z3 ho hb hk1 hk2; rw [show q.arr.toList = plsC [q] from rfl] at ho; have HO3 := Lib.hid (HO2.out.app (m := [q]) (fun r hr => by rw [List.mem_singleton.1 hr]; exact ⟨HQO.out, HCL.out⟩) ho hk1 hk2); have HB3 := Lib.hid (HB2.out.trans hb); clear ho hb hk1 hk2)
      refine ⟨⟨j + 1, l' ++ [q], hlt, by go_num, Lib.hid ⟨HO3.out, ?_, HHI.out, HB3.out⟩⟩, by simp [intOf]; omega⟩
      rw [List.map_append, HM2.out, HT.out, List.map_cons, List.map_nil, HQS.out]
    · have hlt2 : ¬ (j : Int) < (n : Int) := by omega
      have HE : Hid (j = n) := by unfold Hid; omega
      go_wp2_with fail
      go_ret
      exact ⟨_, rfl, l', by rw [HQ.out.2.1, HE.out, List.take_of_length_le (by rw [HLN.out]; exact Nat.le_refl _)], HQ.out.1, HQ.out.2.2.1, HQ.out.2.2.2⟩
theorem copyList_hi (A : Option Addr) (n c : Nat) (l : List Pl) (w : World) (hl : LRow w A n c l) (hn : n ≤ 100000) (hs : ∀ p ∈ l, Small p.s) :
    Calls Tryz.prog 68 #[.slice A n c] w fun e w' => ∃ v l', e = .returned v ∧ l'.map (·.s) = l.map (·.s) ∧ LOwn w' w.heap.size v l' ∧ (∀ p ∈ l', (∀ ad, p.A = some ad → w.heap.size ≤ ad.block) ∧ (∀ ad, p.B = some ad → w.heap.size ≤ ad.block)) ∧ Below w.heap.size w w' :=
  copyList_few A n c l w hl hn fun p hp => (hs p hp).few
end Go.Proofs.YtnmpbjgccbnomaaGreat
/- Rows of statements, taken, dropped, read in drawn regions; the reference's order. -/
namespace Go.Proofs.YtnmpbjgccbnomaaGreat
open Go.RowKit
theorem stm_size6 : (Tryz.prog.info? 48).map (·.size) = some 13 := by kernel_rfl
/-- The reference's order of statements in a store. -/
def beforeB (s t : Stm) : Bool := if s.author = t.author then (if s.number = t.number then Op.bytesLess s.dig.toList t.dig.toList else decide (s.number < t.number)) else decide (s.author < t.author)
end Go.Proofs.YtnmpbjgccbnomaaGreat
