import Derived.Test.YtnmpbjgccbnomaaGreatPackAK
import Derived.Test.YtnmpbjgccbnomaaGreatPackAQ
import Derived.Test.YtnmpbjgccbnomaaGreatPackAB
import Derived.Test.YtnmpbjgccbnomaaGreatPackAC
import Derived.Test.YtnmpbjgccbnomaaGreatPackAD
import Derived.Test.YtnmpbjgccbnomaaGreatPackAA
/- The walk of the reference's SameList. -/
namespace Go.Proofs.YtnmpbjgccbnomaaGreat
open Go.RowKit
/-- Two lists are the same, statement by statement. -/
def sameLB : List Stm → List Stm → Bool
  | [], [] => true
  | a :: l, b :: m => sameS a b && sameLB l m
  | _, _ => false
theorem sameLB_len : ∀ (l m : List Stm), l.length ≠ m.length → sameLB l m = false
  | [], [], h => absurd rfl h
  | [], _ :: _, _ => rfl
  | _ :: _, [], _ => rfl
  | a :: l, b :: m, h => by unfold sameLB; rw [sameLB_len l m (fun e => h (by simp [e])), Bool.and_false]
theorem sameLB_self : ∀ l : List Stm, sameLB l l = true
  | [] => rfl
  | a :: l => by unfold sameLB; rw [sameS_self, sameLB_self l]; rfl
set_option maxRecDepth 100000 in
set_option maxHeartbeats 4000000 in
theorem sameList_few (A : Option Addr) (n c : Nat) (l : List Pl) (A2 : Option Addr) (n2 c2 : Nat) (m : List Pl) (w : World) (hl : LRow w A n c l) (hm : LRow w A2 n2 c2 m) (hn : n ≤ 100000) (hs : ∀ p ∈ l, Few p.s) :
    Calls Tryz.prog 96 #[.slice A n c, .slice A2 n2 c2] w (SaysL (.bool (sameLB (l.map (·.s)) (m.map (·.s)))) w) := by
  have HL := Lib.hid hl; have HM := Lib.hid hm; have HS := Lib.hid hs
  have HLN := Lib.hid hl.len; have HMN := Lib.hid hm.len
  clear hl hm hs
  go_enter Tryz.func96, Tryz.ntmps96
  by_cases hnn : n = n2
  · subst hnn
    go_wp2_with fail
    go_loopw [5] (fun i wr => ∃ j : Nat, j ≤ n ∧ i = .int .i64 j ∧ Hid (Below w.heap.size w wr ∧ sameLB (l.map (·.s)) (m.map (·.s)) = sameLB ((l.drop j).map (·.s)) ((m.drop j).map (·.s)))) (fun i _ => n - (intOf i).toNat)
    case atStart => exact ⟨0, Nat.zero_le _, rfl, Lib.hid ⟨Below.refl _ _, rfl⟩⟩
    case round =>
      obtain ⟨j, hj, rfl, HQ⟩ := hrel
      by_cases hlt : j < n
      · have hlt2 : (j : Int) < (n : Int) := by omega
        have HD : Hid (sameLB ((l.drop j).map (·.s)) ((m.drop j).map (·.s)) = (sameS (l.getD j noPl).s (m.getD j noPl).s && sameLB ((l.drop (j + 1)).map (·.s)) ((m.drop (j + 1)).map (·.s)))) := Lib.hid (by
          rw [List.drop_eq_getElem_cons (show j < l.length by rw [HLN.out]; exact hlt), List.drop_eq_getElem_cons (show j < m.length by rw [HMN.out]; exact hlt), List.getD_eq_getElem?_getD, List.getElem?_eq_getElem (show j < l.length by rw [HLN.out]; exact hlt), List.getD_eq_getElem?_getD, List.getElem?_eq_getElem (show j < m.length by rw [HMN.out]; exact hlt)]
          rfl)
        go_wp2_with fail
        refine wp_region_grow (by kernel_rfl) Later Later.refl (fun _ _ _ => Later.trans) [9] [([0, 1, 2, 3, 4, 5, 6, 7], 8)] (by kernel_rfl) (by kernel_rfl) (by kernel_rfl) ?_
        simp only [List.map_cons, List.map_nil, pick, List.getD_cons_zero, List.getD_cons_succ]
        have HB0 : Hid (Below w.heap.size w wr.drew) := Lib.hid HQ.out.1.drew
        have HE0 := Lib.hid HQ.out.2
        clear HQ
        generalize wr.drew = z0 at *
        have HL0 := Lib.hid (HL.out.later HB0.out); have HM0 := Lib.hid (HM.out.later HB0.out)
        obtain ⟨b, off, hA, hf⟩ := LRow.futs (F := Later) Later.refl (fun _ h => h) HL0.out j hlt
        obtain ⟨b2, off2, hA2, hg⟩ := LRow.futs (F := Later) Later.refl (fun _ h => h) HM0.out j hlt
        subst hA hA2
        have HP1 := Lib.hid (HL0.out.at j hlt); have HP2 := Lib.hid (HM0.out.at j hlt); have HS1 := Lib.hid (HS.out _ (HL.out.get j hlt))
        clear HL0 HM0
        generalize l.getD j noPl = p at *
        generalize m.getD j noPl = q at *
        have hf2 := cells_futs hf; have hg2 := cells_futs hg
        clear hf hg
        refine wpGrow_cons ?_
        repeat (first | (refine wpQuiet_load rfl 48 (.tmp 19) rfl ⟨b, off + j * 13, none⟩ rfl (.agg p.arr) (fun w' h => by obtain ⟨x, rfl⟩ := h; exact hf2 x) ?_; simp only [Act.put, List.setIfInBounds_toArray, List.set_cons_succ, List.set_cons_zero]) | (refine wpQuiet_load rfl 48 (.tmp 23) rfl ⟨b2, off2 + j * 13, none⟩ rfl (.agg q.arr) (fun w' h => by obtain ⟨x, rfl⟩ := h; exact hg2 x) ?_; simp only [Act.put, List.setIfInBounds_toArray, List.set_cons_succ, List.set_cons_zero]) | go_big_quiet_step (fail))
        refine wpQuiet_nil ?_
        clear hf2 hg2
        go_wp2_with fail
        refine (sameP_few p q z0 HP1.out HP2.out HS1.out).mono ?_
        rintro e w2 ⟨rfl, hb⟩
        have HF : Hid (Later z0 w2) := Lib.hid hb; have HB2 := Lib.hid (HB0.out.trans (hb.mono HB0.out.size)); clear hb HB0
        generalize sameS p.s q.s = bb at *
        go_wp2_with fail
        refine pieceEnd_normal ⟨HF.out, ?_⟩
        clear HF
        refine wpGrow_nil ?_
        repeat (go_big_quiet_step (fail))
        refine wpQuiet_nil ?_
        cases bb
        · go_wp2_with fail
          go_ret
          exact ⟨by rw [HE0.out, HD.out]; rfl, HB2.out⟩
        · go_wp2_with fail
          exact ⟨⟨j + 1, hlt, by go_num, Lib.hid ⟨HB2.out, by rw [HE0.out, HD.out, Bool.true_and]⟩⟩, by simp [intOf]; omega⟩
      · have hlt2 : ¬ (j : Int) < (n : Int) := by omega
        have HE : Hid (j = n) := by unfold Hid; omega
        go_wp2_with fail
        go_ret
        refine ⟨?_, HQ.out.1⟩
        rw [HQ.out.2, HE.out, List.drop_eq_nil_of_le (by rw [HLN.out]; exact Nat.le_refl _), List.drop_eq_nil_of_le (by rw [HMN.out]; exact Nat.le_refl _)]
        rfl
  · have g : ((n : Int) == (n2 : Int)) = false := by simp; omega
    have HE : Hid (sameLB (l.map (·.s)) (m.map (·.s)) = false) := Lib.hid (sameLB_len _ _ (by rw [List.length_map, List.length_map, HLN.out, HMN.out]; exact hnn))
    go_wp2_with fail
    go_ret
    exact ⟨by rw [HE.out]; rfl, Below.refl _ _⟩
theorem sameList_any (A : Option Addr) (n c : Nat) (l : List Pl) (A2 : Option Addr) (n2 c2 : Nat) (m : List Pl) (w : World) (hl : LRow w A n c l) (hm : LRow w A2 n2 c2 m) (hn : n ≤ 100000) (hs : ∀ p ∈ l, Small p.s) :
    Calls Tryz.prog 96 #[.slice A n c, .slice A2 n2 c2] w (SaysL (.bool (sameLB (l.map (·.s)) (m.map (·.s)))) w) :=
  sameList_few A n c l A2 n2 c2 m w hl hm hn fun p hp => (hs p hp).few
end Go.Proofs.YtnmpbjgccbnomaaGreat
/- The walk of the reference's Next over any list. -/
namespace Go.Proofs.YtnmpbjgccbnomaaGreat
open Go.RowKit
def lastL (l : List Stm) : Stm := l.getD (l.length - 1) noStm
/-- What would come next in a chain. -/
def draftR (au : Int) (l : List Stm) (s : Stm) : Stm := if l.length = 0 then { s with author := au, number := 0, prev := ⟨#[]⟩ } else { s with author := au, number := (l.length : Int), prev := digS (lastL l) }
/-- What the reference's Next returns. -/
noncomputable def nextP (au : Int) (l : List Stm) (s : Stm) : Stm × Int :=
  if l.length ≠ 0 ∧ sameLB (countedR au l) l = false then (noStm, 1)
  else if l.length ≠ 0 ∧ s.time < (lastL l).time then (noStm, 9)
  else if l.length ≠ 0 ∧ (lastL l).kind = 3 then (noStm, 5)
  else if checkV (sealOf (draftR au l s)) = 0 then (sealOf (draftR au l s), 0) else (noStm, checkV (sealOf (draftR au l s)))
theorem seal_small7 {s : Stm} (h : Small s) : Small (sealOf s) := ⟨h.prev, h.list, h.pins, h.all, h.body, by show (digS s).size ≤ _; rw [digS_size]; decide⟩
theorem draft_small {au : Int} {l : List Stm} {s : Stm} (h : Small s) : Small (draftR au l s) := by
  unfold draftR
  split
  · exact ⟨by show (0 : Nat) ≤ _; omega, h.list, h.pins, h.all, h.body, h.dig⟩
  · exact ⟨by show (digS _).size ≤ _; rw [digS_size]; decide, h.list, h.pins, h.all, h.body, h.dig⟩
theorem countedR_mem {au : Int} {l : List Stm} {s : Stm} (h : s ∈ countedR au l) : s ∈ l := (ownL_mem (List.mem_of_mem_take h)).1
/-- Its lists lie in neither of the call's two blocks. -/
def Off (w : World) (p : Pl) : Prop := (∀ ad, p.A = some ad → 0 < p.n → ad.block ≠ w.heap.size ∧ ad.block ≠ w.heap.size + 1) ∧ (∀ ad, p.B = some ad → 0 < p.m → ad.block ≠ w.heap.size ∧ ad.block ≠ w.heap.size + 1)
theorem PlOk.off {w : World} {p : Pl} (h : PlOk w p) : Off w p := ⟨fun ad hA h0 => by have := Row.lt h.1 (by decide) ad hA h0; omega, fun ad hA h0 => by have := Row.lt h.2 (by decide) ad hA h0; omega⟩
theorem Off.new {w x : World} {q : Pl} (h : w.heap.size + 1 < x.heap.size) (hA : ∀ ad, q.A = some ad → x.heap.size ≤ ad.block) (hB : ∀ ad, q.B = some ad → x.heap.size ≤ ad.block) : Off w q := ⟨fun ad e _ => by have := hA ad e; omega, fun ad e _ => by have := hB ad e; omega⟩
/-- In the midst of the call: what its two blocks hold. -/
structure RMid (w : World) (p : Pl) (x : World) : Prop where
  cur : x.heap[w.heap.size]? = some (.cells p.arr 48 (0, 0))
  res : x.heap[w.heap.size + 1]? = some (.cells #[.int .i64 0, .int .i64 0, .string ⟨#[]⟩, .int .i64 0, .int .i64 0, .int .i64 0, .int .i64 0, .int .i64 0, .slice none 0 0, .slice none 0 0, .string ⟨#[]⟩, .int .i64 0, .string ⟨#[]⟩] 48 (0, 0))
  below : Below w.heap.size w x
  ok : PlOk x p
  off : Off w p
theorem RMid.lt {w x : World} {p : Pl} (h : RMid w p x) : w.heap.size + 1 < x.heap.size := (Array.getElem?_eq_some_iff.1 h.res).1
theorem RMid.later {w x y : World} {p : Pl} (h : RMid w p x) (hb : Below x.heap.size x y) : RMid w p y :=
  ⟨(hb.block _ (by have := h.lt; omega)).trans h.cur, (hb.block _ h.lt).trans h.res, h.below.trans (hb.mono h.below.size), h.ok.later hb, h.off⟩
theorem PlOk.but {w x y : World} {p : Pl} (h : PlOk x p) (ho : Off w p) (hk : ∀ k, k ≠ w.heap.size → k ≠ w.heap.size + 1 → y.heap[k]? = x.heap[k]?) : PlOk y p :=
  ⟨Row.keep h.1 fun ad hA h0 _ => hk _ (ho.1 ad hA h0).1 (ho.1 ad hA h0).2, Row.keep h.2 fun ad hA h0 _ => hk _ (ho.2 ad hA h0).1 (ho.2 ad hA h0).2⟩
theorem RMid.row {w x : World} {p q : Pl} (h : RMid w p x) (hq : PlOk x q) (ho : Off w q) : RMid w q (x.setRow w.heap.size q.arr) :=
  ⟨setRow_heap _ _ _ _ _ _ h.cur, (setRow_other _ _ _ _ (by omega)).trans h.res, below_setRow h.below (Nat.le_refl _) _, hq.but ho fun k h1 _ => setRow_other _ _ _ _ h1, ho⟩
theorem RMid.three {w x : World} {p : Pl} (h : RMid w p x) (au nu : Int) (pr : ByteArray) :
    RMid w ⟨{ p.s with author := au, number := nu, prev := pr }, p.A, p.n, p.c, p.B, p.m, p.k⟩ (((x.setCell ⟨w.heap.size, 0, none⟩ (.int .i64 au)).setCell ⟨w.heap.size, 1, none⟩ (.int .i64 nu)).setCell ⟨w.heap.size, 2, none⟩ (.string pr)) := by
  have e : ∀ k, k ≠ w.heap.size → (((x.setCell ⟨w.heap.size, 0, none⟩ (.int .i64 au)).setCell ⟨w.heap.size, 1, none⟩ (.int .i64 nu)).setCell ⟨w.heap.size, 2, none⟩ (.string pr)).heap[k]? = x.heap[k]? := fun k hk =>
    (Below.heap_setCell _ _ _ _ hk).trans ((Below.heap_setCell _ _ _ _ hk).trans (Below.heap_setCell _ _ _ _ hk))
  refine ⟨heap_setCell_same _ _ _ _ _ _ (heap_setCell_same _ _ _ _ _ _ (heap_setCell_same _ _ _ _ _ _ h.cur)), (e _ (by omega)).trans h.res, ((h.below.setCell (Nat.le_refl _) _).setCell (Nat.le_refl _) _).setCell (Nat.le_refl _) _, ?_, h.off⟩
  exact PlOk.but (w := w) (p := ⟨{ p.s with author := au, number := nu, prev := pr }, p.A, p.n, p.c, p.B, p.m, p.k⟩) ⟨h.ok.1, h.ok.2⟩ h.off fun k h1 _ => e k h1
theorem RMid.two {w x : World} {p : Pl} (h : RMid w p x) (nu : Int) (pr : ByteArray) :
    RMid w ⟨{ p.s with number := nu, prev := pr }, p.A, p.n, p.c, p.B, p.m, p.k⟩ ((x.setCell ⟨w.heap.size, 1, none⟩ (.int .i64 nu)).setCell ⟨w.heap.size, 2, none⟩ (.string pr)) := by
  have e : ∀ k, k ≠ w.heap.size → ((x.setCell ⟨w.heap.size, 1, none⟩ (.int .i64 nu)).setCell ⟨w.heap.size, 2, none⟩ (.string pr)).heap[k]? = x.heap[k]? := fun k hk =>
    (Below.heap_setCell _ _ _ _ hk).trans (Below.heap_setCell _ _ _ _ hk)
  refine ⟨heap_setCell_same _ _ _ _ _ _ (heap_setCell_same _ _ _ _ _ _ h.cur), (e _ (by omega)).trans h.res, (h.below.setCell (Nat.le_refl _) _).setCell (Nat.le_refl _) _, ?_, h.off⟩
  exact PlOk.but (w := w) (p := ⟨{ p.s with number := nu, prev := pr }, p.A, p.n, p.c, p.B, p.m, p.k⟩) ⟨h.ok.1, h.ok.2⟩ h.off fun k h1 _ => e k h1
theorem results_nextR {tmps : Array Value} {w : World} {s : Nat} {cs : Array Value} {v : Value} (h2 : tmps.getD 6 undef = .pointer (some ⟨s, 0, none⟩)) (h3 : tmps.getD 7 undef = v)
    (hs : w.heap[s]? = some (.cells cs 48 (0, 0))) (hz : cs.size = 13) :
    (results Tryz.f74 tmps).run Tryz.prog w = .ok (.tuple #[.agg cs, v]) w := by
  have hr : Tryz.f74.results = #[.cell 6 48, .tmp 7] := rfl
  have h2' : tmps[6]?.getD undef = .pointer (some ⟨s, 0, none⟩) := by simpa using h2
  have h3' : tmps[7]?.getD undef = v := by simpa using h3
  have hl := run_loadVar_row (P := Tryz.prog) w s 48 48 cs (0, 0) _ hs Tryz.underlying48 rfl (by rw [hz]; kernel_rfl)
  unfold results
  rw [hr]
  simp [h2', h3', asAddr, hl]
/-- A call that gives a statement in blocks of its own, and a number. -/
def GivesX (w : World) (s : Stm) (v : Int) (e : Ending) (w' : World) : Prop := ∃ q : Pl, e = .returned (.tuple #[.agg q.arr, .int .i64 v]) ∧ q.s = s ∧ PlOk w' q ∧ (∀ ad, q.A = some ad → w.heap.size ≤ ad.block) ∧ (∀ ad, q.B = some ad → w.heap.size ≤ ad.block) ∧ Below w.heap.size w w'
theorem GivesX.no {w w' : World} {v : Int} (hb : Below w.heap.size w w') : GivesX w noStm v (.returned (.tuple #[.agg #[.int .i64 0, .int .i64 0, .string ⟨#[]⟩, .int .i64 0, .int .i64 0, .int .i64 0, .int .i64 0, .int .i64 0, .slice none 0 0, .slice none 0 0, .string ⟨#[]⟩, .int .i64 0, .string ⟨#[]⟩], .int .i64 v])) w' := ⟨noPl, rfl, rfl, noPl_ok _, fun _ h => (nomatch h), fun _ h => (nomatch h), hb⟩
set_option maxRecDepth 100000 in
set_option maxHeartbeats 4000000 in
theorem nextP_any (au : Int) (A : Option Addr) (n c : Nat) (l : List Pl) (p : Pl) (w : World) (hl : LRow w A n c l) (hn : n ≤ 100000) (hs : ∀ q ∈ l, Small q.s) (hp : PlOk w p) (hsp : Small p.s) :
    Calls Tryz.prog 74 #[.int .i64 au, .slice A n c, .agg p.arr] w (GivesX w (nextP au (l.map (·.s)) p.s).1 (nextP au (l.map (·.s)) p.s).2) := by
  have HL := Lib.hid hl; have HLN := Lib.hid hl.len; have HS := Lib.hid hs; have HSP := Lib.hid hsp
  have HLL : Hid ((l.map (·.s)).length = n) := Lib.hid (by rw [List.length_map, hl.len])
  have HLA : Hid (lastL (l.map (·.s)) = (l.getD (n - 1) noPl).s) := Lib.hid (by rw [lastL, getD_s, List.length_map, hl.len])
  have HV0 : Hid (nextP au (l.map (·.s)) p.s = if n ≠ 0 ∧ sameLB (countedR au (l.map (·.s))) (l.map (·.s)) = false then (noStm, 1) else if n ≠ 0 ∧ p.s.time < (l.getD (n - 1) noPl).s.time then (noStm, 9) else if n ≠ 0 ∧ (l.getD (n - 1) noPl).s.kind = 3 then (noStm, 5) else if checkV (sealOf (draftR au (l.map (·.s)) p.s)) = 0 then (sealOf (draftR au (l.map (·.s)) p.s), 0) else (noStm, checkV (sealOf (draftR au (l.map (·.s)) p.s)))) := Lib.hid (by rw [nextP, HLL.out, HLA.out])
  have HDR : Hid (draftR au (l.map (·.s)) p.s = if n = 0 then { p.s with author := au, number := 0, prev := ⟨#[]⟩ } else { p.s with author := au, number := (n : Int), prev := digS (l.getD (n - 1) noPl).s }) := Lib.hid (by rw [draftR, HLL.out, HLA.out])
  have HSD := Lib.hid (draft_small (au := au) (l := l.map (·.s)) hsp)
  have HCO := Lib.hid fun y (h : Below w.heap.size w y) => refCounted_any au A n c l y (hl.later h) hn hs
  generalize nextP au (l.map (·.s)) p.s = NX at HV0 ⊢
  generalize draftR au (l.map (·.s)) p.s = D at HV0 HDR HSD
  have HM0 : Hid (RMid w p ((w.alloc (.cells p.arr 48)).alloc (.cells #[.int .i64 0, .int .i64 0, .string ⟨#[]⟩, .int .i64 0, .int .i64 0, .int .i64 0, .int .i64 0, .int .i64 0, .slice none 0 0, .slice none 0 0, .string ⟨#[]⟩, .int .i64 0, .string ⟨#[]⟩] 48))) := Lib.hid ⟨(Below.heap_alloc _ _ _ (by simp)).trans (heap_alloc_new _ _), heap_alloc2_new _ _ _, (one_new w _).alloc (by simp) _, hp.later ((one_new w _).alloc (by simp) _), hp.off⟩
  clear hl hs hp hsp
  go_enter Tryz.func74, Tryz.ntmps74
  go_upto_region 1 with fail
  generalize ((w.alloc (.cells p.arr 48)).alloc (.cells #[.int .i64 0, .int .i64 0, .string ⟨#[]⟩, .int .i64 0, .int .i64 0, .int .i64 0, .int .i64 0, .int .i64 0, .slice none 0 0, .slice none 0 0, .string ⟨#[]⟩, .int .i64 0, .string ⟨#[]⟩] 48)) = y0 at *
  by_cases hz : n = 0
  · subst hz
    go_wp2_with (refine wpList_load_row rfl 48 (.tmp 5) rfl w.heap.size rfl 48 p.arr (0, 0) _ HM0.out.cur Tryz.underlying48 rfl p.info ?_)
    refine (copyP_any p _ HM0.out.ok HSP.out).mono ?_
    rintro e w1 ⟨q, rfl, hqs, hqo, hna, hnb, hb⟩
    have HM1 := Lib.hid (HM0.out.later hb)
    have HQS := Lib.hid hqs; have HQO := Lib.hid hqo
    have HOF := Lib.hid (Off.new (w := w) (q := q) HM0.out.lt hna hnb)
    clear hqs hqo hna hnb hb HM0
    go_upto_region 4 with (refine wpList_store_row rfl 48 (.tmp 5) (.tmp 24) rfl w.heap.size q.arr rfl rfl 48 _ HM1.out.cur q.info rfl q.one ?_)
    have HM2 := Lib.hid (HM1.out.row HQO.out HOF.out)
    generalize w1.setRow w.heap.size q.arr = x2 at *
    clear HM1 HQO HOF
    have hfz : ∀ k, x2.frozen? ⟨w.heap.size, k, none⟩ = false := fun k => frozen_of_row _ _ _ _ _ HM2.out.cur
    have hz0 := hfz 0; have hz1 := hfz 1; have hz2 := hfz 2
    have hc0 : x2.cell? ⟨w.heap.size, 0, none⟩ = some (.int .i64 q.s.author) := (cell_of_row _ _ 0 _ _ _ HM2.out.cur).trans rfl
    have hc1 : x2.cell? ⟨w.heap.size, 1, none⟩ = some (.int .i64 q.s.number) := (cell_of_row _ _ 1 _ _ _ HM2.out.cur).trans rfl
    have hc2 : x2.cell? ⟨w.heap.size, 2, none⟩ = some (.string q.s.prev) := (cell_of_row _ _ 2 _ _ _ HM2.out.cur).trans rfl
    clear hfz
    have HM3 := Lib.hid (HM2.out.three au 0 ⟨#[]⟩)
    go_upto_region 5 with fail
    generalize ((x2.setCell ⟨w.heap.size, 0, none⟩ (.int .i64 au)).setCell ⟨w.heap.size, 1, none⟩ (.int .i64 0)).setCell ⟨w.heap.size, 2, none⟩ (.string ⟨#[]⟩) = x3 at *
    rw [HQS.out] at HM3
    clear HM2 hz0 hz1 hz2 hc0 hc1 hc2 HQS
    have HDS : Hid (({ p.s with author := au, number := 0, prev := ⟨#[]⟩ } : Stm) = D) := Lib.hid (by first | rw [HDR.out, if_pos rfl] | rw [HDR.out, if_pos trivial])
    generalize hd : (⟨{ p.s with author := au, number := 0, prev := ⟨#[]⟩ }, q.A, q.n, q.c, q.B, q.m, q.k⟩ : Pl) = d at HM3
    have HDS2 : Hid (d.s = D) := Lib.hid (by rw [← hd]; exact HDS.out)
    clear HDS hd
    have HDS := HDS2
    clear HDS2
    go_wp2_with (refine wpList_load_row rfl 48 (.tmp 5) rfl w.heap.size rfl 48 d.arr (0, 0) _ HM3.out.cur Tryz.underlying48 rfl d.info ?_)
    refine (sealP_any d _ HM3.out.ok (by rw [HDS.out]; exact HSD.out)).mono ?_
    rintro e v1 ⟨r, rfl, hrs, hro, hna, hnb, hb⟩
    have HT1 := Lib.hid (HM3.out.later hb)
    have HRS : Hid (r.s = sealOf D) := Lib.hid (by rw [hrs, HDS.out])
    have HRO := Lib.hid hro
    have HOF := Lib.hid (Off.new (w := w) (q := r) HM3.out.lt hna hnb)
    have HNA : Hid (∀ ad, r.A = some ad → w.heap.size ≤ ad.block) := Lib.hid fun ad h => by have h1 := hna ad h; have h2 := HM3.out.lt; omega
    have HNB : Hid (∀ ad, r.B = some ad → w.heap.size ≤ ad.block) := Lib.hid fun ad h => by have h1 := hnb ad h; have h2 := HM3.out.lt; omega
    clear hrs hro hna hnb hb HM3
    go_upto_region 14 with (refine wpList_store_row rfl 48 (.tmp 5) (.tmp 54) rfl w.heap.size r.arr rfl rfl 48 _ HT1.out.cur r.info rfl r.one ?_)
    have HT2 := Lib.hid (HT1.out.row HRO.out HOF.out)
    generalize v1.setRow w.heap.size r.arr = v2 at *
    clear HT1 HRO
    go_wp2_with (refine wpList_load_row rfl 48 (.tmp 5) rfl w.heap.size rfl 48 r.arr (0, 0) _ HT2.out.cur Tryz.underlying48 rfl r.info ?_)
    refine (checkP_any r _ HT2.out.ok (by rw [HRS.out]; exact seal_small7 HSD.out)).mono ?_
    rw [HRS.out]
    rintro e v3 ⟨rfl, hb⟩
    have HT3 := Lib.hid (HT2.out.later hb)
    clear hb HT2
    by_cases hcv : checkV (sealOf D) = 0
    · have HV : Hid (NX = (sealOf D, 0)) := Lib.hid (by rw [HV0.out, if_neg (fun h => h.1 rfl), if_neg (fun h => h.1 rfl), if_neg (fun h => h.1 rfl), if_pos hcv])
      rw [hcv]
      clear hcv
      go_wp2_with (first | (refine wpList_load_row rfl 48 (.tmp 5) rfl w.heap.size rfl 48 r.arr (0, 0) _ HT3.out.cur Tryz.underlying48 rfl r.info ?_) | (refine wpList_store_row rfl 48 (.tmp 6) (.tmp 61) rfl (w.heap.size + 1) r.arr rfl rfl 48 _ HT3.out.res r.info rfl r.one ?_))
      refine bodyPost_ret (results_nextR rfl rfl (setRow_heap _ _ _ r.arr _ _ HT3.out.res) rfl) rfl ?_
      rw [HV.out]
      exact ⟨r, rfl, HRS.out, HT3.out.ok.but HOF.out fun k _ h2 => setRow_other _ _ _ _ h2, HNA.out, HNB.out, below_setRow HT3.out.below (by omega) _⟩
    · have HV : Hid (NX = (noStm, checkV (sealOf D))) := Lib.hid (by rw [HV0.out, if_neg (fun h => h.1 rfl), if_neg (fun h => h.1 rfl), if_neg (fun h => h.1 rfl), if_neg hcv])
      have hcv2 : (checkV (sealOf D) != 0) = true := by rw [bne_iff_ne]; exact hcv
      generalize checkV (sealOf D) = cv at *
      clear hcv
      go_wp2_with (refine wpList_store_row rfl 48 (.tmp 6) (.tmp 59) rfl (w.heap.size + 1) #[.int .i64 0, .int .i64 0, .string ⟨#[]⟩, .int .i64 0, .int .i64 0, .int .i64 0, .int .i64 0, .int .i64 0, .slice none 0 0, .slice none 0 0, .string ⟨#[]⟩, .int .i64 0, .string ⟨#[]⟩] rfl rfl 48 _ HT3.out.res (by kernel_rfl) rfl (by simp [Value.oneCell']) ?_)
      refine bodyPost_ret (results_nextR rfl rfl (setRow_heap _ _ _ #[.int .i64 0, .int .i64 0, .string ⟨#[]⟩, .int .i64 0, .int .i64 0, .int .i64 0, .int .i64 0, .int .i64 0, .slice none 0 0, .slice none 0 0, .string ⟨#[]⟩, .int .i64 0, .string ⟨#[]⟩] _ _ HT3.out.res) rfl) rfl ?_
      rw [HV.out]
      exact GivesX.no (below_setRow HT3.out.below (by omega) _)
  · have b4 : decide ((0 : Int) < (n : Int)) = true := decide_eq_true (by omega)
    have b5 : decide (0 < n) = true := decide_eq_true (by omega)
    have b6 : (0 : Int) < (n : Int) := by omega
    have e0 : (0 : Int) ≤ (n : Int) - 1 := by omega
    have e1 : (n : Int) - 1 < (n : Int) := by omega
    have e2 : ((n : Int) - 1).toNat = n - 1 := by omega
    go_wp2_with fail
    refine (HCO.out y0 HM0.out.below).mono ?_
    clear HCO
    rintro e w1 ⟨v, l2, rfl, hm, ho, hb⟩
    obtain ⟨A2, c2, hv, hr2⟩ := ho.row
    subst hv
    have HSA := Lib.hid (sameList_any A2 l2.length c2 l2 A n c l w1 hr2 (HL.out.later (HM0.out.below.trans (hb.mono HM0.out.below.size))) (by
      have h1 := congrArg List.length hm
      have h2 := ownL_len au (l.map (·.s))
      rw [List.length_map, countedR, List.length_take] at h1
      rw [HLL.out] at h2
      omega) (fun q hq => by
      have h1 : q.s ∈ countedR au (l.map (·.s)) := by rw [← hm]; exact List.mem_map_of_mem hq
      obtain ⟨r, hr, he⟩ := List.mem_map.1 (countedR_mem h1)
      rw [← he]; exact HS.out r hr))
    rw [hm] at HSA
    replace HM0 := Lib.hid (HM0.out.later hb)
    clear hm ho hb hr2
    go_wp2_with fail
    refine HSA.out.mono ?_
    clear HSA
    rintro e w2 ⟨rfl, hb⟩
    replace HM0 := Lib.hid (HM0.out.later hb)
    clear hb
    by_cases hsl : sameLB (countedR au (l.map (·.s))) (l.map (·.s)) = true
    · rw [hsl]
      have HSL := Lib.hid hsl; clear hsl
      go_wp2_with (refine wpList_load_row rfl 48 (.tmp 5) rfl w.heap.size rfl 48 p.arr (0, 0) _ HM0.out.cur Tryz.underlying48 rfl p.info ?_)
      refine (copyP_any p _ HM0.out.ok HSP.out).mono ?_
      rintro e w1 ⟨q, rfl, hqs, hqo, hna, hnb, hb⟩
      have HM1 := Lib.hid (HM0.out.later hb)
      have HQS := Lib.hid hqs; have HQO := Lib.hid hqo
      have HOF := Lib.hid (Off.new (w := w) (q := q) HM0.out.lt hna hnb)
      clear hqs hqo hna hnb hb HM0
      go_upto_region 4 with (refine wpList_store_row rfl 48 (.tmp 5) (.tmp 24) rfl w.heap.size q.arr rfl rfl 48 _ HM1.out.cur q.info rfl q.one ?_)
      have HM2 := Lib.hid (HM1.out.row HQO.out HOF.out)
      generalize w1.setRow w.heap.size q.arr = x2 at *
      clear HM1 HQO HOF
      have hfz : ∀ k, x2.frozen? ⟨w.heap.size, k, none⟩ = false := fun k => frozen_of_row _ _ _ _ _ HM2.out.cur
      have hz0 := hfz 0; have hz1 := hfz 1; have hz2 := hfz 2
      have hc0 : x2.cell? ⟨w.heap.size, 0, none⟩ = some (.int .i64 q.s.author) := (cell_of_row _ _ 0 _ _ _ HM2.out.cur).trans rfl
      have hc1 : x2.cell? ⟨w.heap.size, 1, none⟩ = some (.int .i64 q.s.number) := (cell_of_row _ _ 1 _ _ _ HM2.out.cur).trans rfl
      have hc2 : x2.cell? ⟨w.heap.size, 2, none⟩ = some (.string q.s.prev) := (cell_of_row _ _ 2 _ _ _ HM2.out.cur).trans rfl
      clear hfz
      have HM3 := Lib.hid (HM2.out.three au 0 ⟨#[]⟩)
      go_upto_region 5 with fail
      generalize ((x2.setCell ⟨w.heap.size, 0, none⟩ (.int .i64 au)).setCell ⟨w.heap.size, 1, none⟩ (.int .i64 0)).setCell ⟨w.heap.size, 2, none⟩ (.string ⟨#[]⟩) = x3 at *
      rw [HQS.out] at HM3
      clear HM2 hz0 hz1 hz2 hc0 hc1 hc2 HQS
      generalize hd : (⟨{ p.s with author := au, number := 0, prev := ⟨#[]⟩ }, q.A, q.n, q.c, q.B, q.m, q.k⟩ : Pl) = d0 at HM3
      have HD0 := Lib.hid hd; clear hd
      have HLX := Lib.hid (HL.out.later HM3.out.below)
      obtain ⟨b, off, hA, hc⟩ := HLX.out.cells (n - 1) (by omega)
      subst hA
      have HC := Lib.hid hc; clear hc
      have HPL := Lib.hid (HLX.out.at (n - 1) (by omega)); have HPS := Lib.hid (HS.out _ (HL.out.get (n - 1) (by omega)))
      generalize l.getD (n - 1) noPl = t at *
      clear HLX
      go_upto_region 8 with (first | (refine wpList_load_cells rfl 48 (.tmp 36) rfl b (off + (n - 1) * 13) rfl t.arr _ Tryz.underlying48 rfl t.info HC.out ?_) | (refine wpList_store_new rfl 48 (.tmp 9) (.tmp 37) rfl 48 _ t.arr rfl rfl t.info rfl t.one ?_))
      have HNW := Lib.hid (one_new x3 (.cells t.arr 48))
      have HG : Hid ((x3.alloc (.cells t.arr 48)).heap[x3.heap.size]? = some (.cells t.arr 48 (0, 0))) := Lib.hid (heap_alloc_new _ _)
      have HGW : Hid (w.heap.size + 1 < x3.heap.size) := Lib.hid HM3.out.lt
      have HM4 := Lib.hid (HM3.out.later HNW.out)
      replace HPL := Lib.hid (HPL.out.later HNW.out)
      clear HM3 HNW HC
      generalize x3.alloc (.cells t.arr 48) = x4 at *
      generalize x3.heap.size = g at *
      have hcp : x4.cell? ⟨w.heap.size, 3, none⟩ = some (.int .i64 p.s.time) := by
        have h := cell_of_row _ _ 3 _ _ _ HM4.out.cur
        rw [← HD0.out] at h
        exact h
      have hct : x4.cell? ⟨g, 3, none⟩ = some (.int .i64 t.s.time) := (cell_of_row _ _ 3 _ _ _ HG.out).trans rfl
      have hck : x4.cell? ⟨g, 4, none⟩ = some (.int .i64 t.s.kind) := (cell_of_row _ _ 4 _ _ _ HG.out).trans rfl
      by_cases ht : p.s.time < t.s.time
      · have ht2 : decide (p.s.time < t.s.time) = true := decide_eq_true ht
        have HV : Hid (NX = (noStm, 9)) := Lib.hid (by rw [HV0.out, if_neg (fun h => absurd h.2 (by rw [HSL.out]; decide)), if_pos ⟨hz, ht⟩])
        clear ht
        go_wp2_with (refine wpList_store_row rfl 48 (.tmp 6) (.tmp 43) rfl (w.heap.size + 1) #[.int .i64 0, .int .i64 0, .string ⟨#[]⟩, .int .i64 0, .int .i64 0, .int .i64 0, .int .i64 0, .int .i64 0, .slice none 0 0, .slice none 0 0, .string ⟨#[]⟩, .int .i64 0, .string ⟨#[]⟩] rfl rfl 48 _ HM4.out.res (by kernel_rfl) rfl (by simp [Value.oneCell']) ?_)
        refine bodyPost_ret (results_nextR rfl rfl (setRow_heap _ _ _ #[.int .i64 0, .int .i64 0, .string ⟨#[]⟩, .int .i64 0, .int .i64 0, .int .i64 0, .int .i64 0, .int .i64 0, .slice none 0 0, .slice none 0 0, .string ⟨#[]⟩, .int .i64 0, .string ⟨#[]⟩] _ _ HM4.out.res) rfl) rfl ?_
        rw [HV.out]
        exact GivesX.no (below_setRow HM4.out.below (by omega) _)
      · have ht2 : decide (p.s.time < t.s.time) = false := decide_eq_false ht
        have HTT := Lib.hid ht; clear ht
        by_cases hkd : t.s.kind = 3
        · have hk2 : (t.s.kind == 3) = true := by rw [hkd]; rfl
          have HV : Hid (NX = (noStm, 5)) := Lib.hid (by rw [HV0.out, if_neg (fun h => absurd h.2 (by rw [HSL.out]; decide)), if_neg (fun h => by have h1 := HTT.out; have h2 := h.2; omega), if_pos ⟨hz, hkd⟩])
          clear hkd
          go_wp2_with (refine wpList_store_row rfl 48 (.tmp 6) (.tmp 47) rfl (w.heap.size + 1) #[.int .i64 0, .int .i64 0, .string ⟨#[]⟩, .int .i64 0, .int .i64 0, .int .i64 0, .int .i64 0, .int .i64 0, .slice none 0 0, .slice none 0 0, .string ⟨#[]⟩, .int .i64 0, .string ⟨#[]⟩] rfl rfl 48 _ HM4.out.res (by kernel_rfl) rfl (by simp [Value.oneCell']) ?_)
          refine bodyPost_ret (results_nextR rfl rfl (setRow_heap _ _ _ #[.int .i64 0, .int .i64 0, .string ⟨#[]⟩, .int .i64 0, .int .i64 0, .int .i64 0, .int .i64 0, .int .i64 0, .slice none 0 0, .slice none 0 0, .string ⟨#[]⟩, .int .i64 0, .string ⟨#[]⟩] _ _ HM4.out.res) rfl) rfl ?_
          rw [HV.out]
          exact GivesX.no (below_setRow HM4.out.below (by omega) _)
        · have hk2 : (t.s.kind == 3) = false := by rw [beq_eq_false_iff_ne]; exact hkd
          have HKD := Lib.hid hkd; clear hkd
          have hfz : ∀ k, x4.frozen? ⟨w.heap.size, k, none⟩ = false := fun k => frozen_of_row _ _ _ _ _ HM4.out.cur
          go_wp2_with (refine wpList_load_row rfl 48 (.tmp 9) rfl g rfl 48 t.arr (0, 0) _ HG.out Tryz.underlying48 rfl t.info ?_)
          refine (digestP_any t x4 HPL.out HPS.out).mono ?_
          rintro e x5 ⟨rfl, hb⟩
          clear hfz hcp hct hck
          have HM5 := Lib.hid (HM4.out.later hb)
          clear hb HM4 HG HPL
          have hfz : ∀ k, x5.frozen? ⟨w.heap.size, k, none⟩ = false := fun k => frozen_of_row _ _ _ _ _ HM5.out.cur
          have hz1 := hfz 1; have hz2 := hfz 2
          have hc1 : x5.cell? ⟨w.heap.size, 1, none⟩ = some (.int .i64 d0.s.number) := (cell_of_row _ _ 1 _ _ _ HM5.out.cur).trans rfl
          have hc2 : x5.cell? ⟨w.heap.size, 2, none⟩ = some (.string d0.s.prev) := (cell_of_row _ _ 2 _ _ _ HM5.out.cur).trans rfl
          clear hfz
          have HM6 := Lib.hid (HM5.out.two (n : Int) (digS t.s))
          go_upto_region 13 with fail
          generalize (x5.setCell ⟨w.heap.size, 1, none⟩ (.int .i64 (n : Int))).setCell ⟨w.heap.size, 2, none⟩ (.string (digS t.s)) = x6 at *
          clear HM5 hz1 hz2 hc1 hc2
          have HDS0 : Hid (({ d0.s with number := (n : Int), prev := digS t.s } : Stm) = D) := Lib.hid (by rw [HDR.out, if_neg hz, ← HD0.out])
          generalize hd : (⟨{ d0.s with number := (n : Int), prev := digS t.s }, d0.A, d0.n, d0.c, d0.B, d0.m, d0.k⟩ : Pl) = d at HM6
          have HDS : Hid (d.s = D) := Lib.hid (by rw [← hd]; exact HDS0.out)
          clear HDS0 hd
          go_wp2_with (refine wpList_load_row rfl 48 (.tmp 5) rfl w.heap.size rfl 48 d.arr (0, 0) _ HM6.out.cur Tryz.underlying48 rfl d.info ?_)
          refine (sealP_any d _ HM6.out.ok (by rw [HDS.out]; exact HSD.out)).mono ?_
          rintro e v1 ⟨r, rfl, hrs, hro, hna, hnb, hb⟩
          have HT1 := Lib.hid (HM6.out.later hb)
          have HRS : Hid (r.s = sealOf D) := Lib.hid (by rw [hrs, HDS.out])
          have HRO := Lib.hid hro
          have HOF := Lib.hid (Off.new (w := w) (q := r) HM6.out.lt hna hnb)
          have HNA : Hid (∀ ad, r.A = some ad → w.heap.size ≤ ad.block) := Lib.hid fun ad h => by have h1 := hna ad h; have h2 := HM6.out.lt; omega
          have HNB : Hid (∀ ad, r.B = some ad → w.heap.size ≤ ad.block) := Lib.hid fun ad h => by have h1 := hnb ad h; have h2 := HM6.out.lt; omega
          clear hrs hro hna hnb hb HM6
          go_upto_region 14 with (refine wpList_store_row rfl 48 (.tmp 5) (.tmp 54) rfl w.heap.size r.arr rfl rfl 48 _ HT1.out.cur r.info rfl r.one ?_)
          have HT2 := Lib.hid (HT1.out.row HRO.out HOF.out)
          generalize v1.setRow w.heap.size r.arr = v2 at *
          clear HT1 HRO
          go_wp2_with (refine wpList_load_row rfl 48 (.tmp 5) rfl w.heap.size rfl 48 r.arr (0, 0) _ HT2.out.cur Tryz.underlying48 rfl r.info ?_)
          refine (checkP_any r _ HT2.out.ok (by rw [HRS.out]; exact seal_small7 HSD.out)).mono ?_
          rw [HRS.out]
          rintro e v3 ⟨rfl, hb⟩
          have HT3 := Lib.hid (HT2.out.later hb)
          clear hb HT2
          by_cases hcv : checkV (sealOf D) = 0
          · have HV : Hid (NX = (sealOf D, 0)) := Lib.hid (by rw [HV0.out, if_neg (fun h => absurd h.2 (by rw [HSL.out]; decide)), if_neg (fun h => by have h1 := HTT.out; have h2 := h.2; omega), if_neg (fun h => HKD.out h.2), if_pos hcv])
            rw [hcv]
            clear hcv
            go_wp2_with (first | (refine wpList_load_row rfl 48 (.tmp 5) rfl w.heap.size rfl 48 r.arr (0, 0) _ HT3.out.cur Tryz.underlying48 rfl r.info ?_) | (refine wpList_store_row rfl 48 (.tmp 6) (.tmp 61) rfl (w.heap.size + 1) r.arr rfl rfl 48 _ HT3.out.res r.info rfl r.one ?_))
            refine bodyPost_ret (results_nextR rfl rfl (setRow_heap _ _ _ r.arr _ _ HT3.out.res) rfl) rfl ?_
            rw [HV.out]
            exact ⟨r, rfl, HRS.out, HT3.out.ok.but HOF.out fun k _ h2 => setRow_other _ _ _ _ h2, HNA.out, HNB.out, below_setRow HT3.out.below (by omega) _⟩
          · have HV : Hid (NX = (noStm, checkV (sealOf D))) := Lib.hid (by rw [HV0.out, if_neg (fun h => absurd h.2 (by rw [HSL.out]; decide)), if_neg (fun h => by have h1 := HTT.out; have h2 := h.2; omega), if_neg (fun h => HKD.out h.2), if_neg hcv])
            have hcv2 : (checkV (sealOf D) != 0) = true := by rw [bne_iff_ne]; exact hcv
            generalize checkV (sealOf D) = cv at *
            clear hcv
            go_wp2_with (refine wpList_store_row rfl 48 (.tmp 6) (.tmp 59) rfl (w.heap.size + 1) #[.int .i64 0, .int .i64 0, .string ⟨#[]⟩, .int .i64 0, .int .i64 0, .int .i64 0, .int .i64 0, .int .i64 0, .slice none 0 0, .slice none 0 0, .string ⟨#[]⟩, .int .i64 0, .string ⟨#[]⟩] rfl rfl 48 _ HT3.out.res (by kernel_rfl) rfl (by simp [Value.oneCell']) ?_)
            refine bodyPost_ret (results_nextR rfl rfl (setRow_heap _ _ _ #[.int .i64 0, .int .i64 0, .string ⟨#[]⟩, .int .i64 0, .int .i64 0, .int .i64 0, .int .i64 0, .int .i64 0, .slice none 0 0, .slice none 0 0, .string ⟨#[]⟩, .int .i64 0, .string ⟨#[]⟩] _ _ HT3.out.res) rfl) rfl ?_
            rw [HV.out]
            exact GivesX.no (below_setRow HT3.out.below (by omega) _)
    · rw [show sameLB (countedR au (l.map (·.s))) (l.map (·.s)) = false by simpa using hsl]
      have HV : Hid (NX = (noStm, 1)) := Lib.hid (by rw [HV0.out, if_pos ⟨hz, by simpa using hsl⟩])
      clear hsl
      go_wp2_with (refine wpList_store_row rfl 48 (.tmp 6) (.tmp 22) rfl (w.heap.size + 1) #[.int .i64 0, .int .i64 0, .string ⟨#[]⟩, .int .i64 0, .int .i64 0, .int .i64 0, .int .i64 0, .int .i64 0, .slice none 0 0, .slice none 0 0, .string ⟨#[]⟩, .int .i64 0, .string ⟨#[]⟩] rfl rfl 48 _ HM0.out.res (by kernel_rfl) rfl (by simp [Value.oneCell']) ?_)
      refine bodyPost_ret (results_nextR rfl rfl (setRow_heap _ _ _ #[.int .i64 0, .int .i64 0, .string ⟨#[]⟩, .int .i64 0, .int .i64 0, .int .i64 0, .int .i64 0, .int .i64 0, .slice none 0 0, .slice none 0 0, .string ⟨#[]⟩, .int .i64 0, .string ⟨#[]⟩] _ _ HM0.out.res) rfl) rfl ?_
      rw [HV.out]
      exact GivesX.no (below_setRow HM0.out.below (by omega) _)
end Go.Proofs.YtnmpbjgccbnomaaGreat
/- The walk of the dice's Of. -/
namespace Go.Proofs.YtnmpbjgccbnomaaGreat
open Go.RowKit
set_option maxHeartbeats 1000000 in
theorem diceOf_any (L D : Nat) (t : List Int) (k : Nat) (A : Option Addr) (n c : Nat) (l : List Int) (w : World) (h : DiceAt w L D t k) (hl : Row w A n c 1 (intsV l)) (hs : ∀ ad, A = some ad → ad.block ≠ D) (h0 : 1 ≤ n) (hn : n ≤ 1000) :
    Calls Tryz.prog 72 #[.pointer (some ⟨D, 0, none⟩), .slice A n c] w fun e w' => e = .returned (.int .i64 (l.getD (diceV t k n).toNat 0)) ∧ DiceAt w' L D t (diceK t k) ∧ But D w w' := by
  have H := Lib.hid h; have HL := Lib.hid hl; have HS := Lib.hid hs; have hll := hl.len; rw [intsV_len, Nat.mul_one] at hll; have HLL := Lib.hid hll; clear h hl hs hll
  have hv := diceV_bd t k n (by omega)
  go_enter Tryz.func72, Tryz.ntmps72
  go_wp2_with fail
  refine (next_any L D t k n w H.out (by omega) (by omega)).mono ?_
  rintro e w1 ⟨rfl, hd, hb⟩
  obtain ⟨b, off, hA, hcell⟩ := (HL.out.but hb (fun ad hA _ => HS.out ad hA)).form (by omega)
  generalize hgv : diceV t k n = v at hv ⊢
  have hx := hcell v.toNat (by omega)
  rw [intsV_get _ _ (by rw [HLL.out]; omega)] at hx
  unfold iv at hx
  subst hA
  have HD := Lib.hid hd; have HB := Lib.hid hb; have HG := Lib.hid hgv; clear hd hb hcell hgv
  generalize hgx : l.getD v.toNat 0 = x at hx
  have HX := Lib.hid hgx; clear hgx
  go_wp2
  go_ret
  exact ⟨by rw [HG.out, HX.out]; rfl, HD.out, HB.out⟩
end Go.Proofs.YtnmpbjgccbnomaaGreat
/- The walks of trustflowmade's dice: Bytes; and what Some answers. -/
namespace Go.Proofs.YtnmpbjgccbnomaaGreat
open Go.RowKit
def byteTab : List Int := [0, 1, 255, 7, 128, 126, 32]
def byteAt (t : List Int) (k : Nat) : Int := byteTab.getD (diceV t k 7).toNat 0
theorem byteAt_bd (t : List Int) (k : Nat) : 0 ≤ byteAt t k ∧ byteAt t k ≤ 255 := by
  have h := diceV_bd t k 7 (by omega)
  unfold byteAt
  generalize diceV t k 7 = v at h
  have h7 : v.toNat = 0 ∨ v.toNat = 1 ∨ v.toNat = 2 ∨ v.toNat = 3 ∨ v.toNat = 4 ∨ v.toNat = 5 ∨ v.toNat = 6 := by omega
  rcases h7 with e | e | e | e | e | e | e <;> rw [e] <;> decide
/-- Bytes, and how many numbers have been given out behind them. -/
def diceBs (t : List Int) : Nat → Nat → List UInt8 × Nat
  | 0, k => ([], k)
  | j + 1, k => ((diceBs t j k).1 ++ [UInt8.ofNat (byteAt t (diceBs t j k).2).toNat], diceK t (diceBs t j k).2)
theorem diceBs_len (t : List Int) (j k : Nat) : (diceBs t j k).1.length = j := by
  induction j with
  | zero => rfl
  | succ j ih => simp [diceBs, ih]
def diceBytes (t : List Int) (k : Nat) (most : Int) : List UInt8 × Nat := diceBs t (diceV t k (most + 1)).toNat (diceK t k)
set_option maxRecDepth 20000 in
set_option maxHeartbeats 1000000 in
theorem bytes_any (L D : Nat) (t : List Int) (k : Nat) (most : Int) (w : World) (h : DiceAt w L D t k) (h0 : 0 ≤ most) (hm : most ≤ 100000) :
    Calls Tryz.prog 95 #[.pointer (some ⟨D, 0, none⟩), .int .i64 most] w fun e w' => ∃ v, e = .returned v ∧ BOwn w' w.heap.size v (diceBytes t k most).1 ∧ DiceAt w' L D t (diceBytes t k most).2 ∧ But D w w' := by
  have H := Lib.hid h; have hD := h.lt; clear h
  have hv := diceV_bd t k (most + 1) (by omega)
  go_enter Tryz.func95, Tryz.ntmps95
  go_wp2_with fail
  refine (next_any L D t k (most + 1) w H.out (by omega) (by omega)).mono ?_
  rintro e w1 ⟨rfl, hd, hb⟩
  have HD := Lib.hid hd; have HB := Lib.hid hb; clear hd hb
  have HE : Hid (diceBytes t k most = diceBs t (diceV t k (most + 1)).toNat (diceK t k)) := Lib.hid rfl
  generalize diceV t k (most + 1) = N at hv HE ⊢
  generalize diceK t k = k1 at HD HE
  go_wp2_with fail
  go_loopw [5, 6] (fun v i wr => ∃ j : Nat, (j : Int) ≤ N ∧ i = .int .i64 (N - (j : Int)) ∧ Hid (BOwn wr w.heap.size v (diceBs t j k1).1 ∧ DiceAt wr L D t (diceBs t j k1).2 ∧ But D w wr)) (fun _ i _ => (intOf i).toNat)
  case atStart => exact ⟨0, by omega, by go_num, Lib.hid ⟨World.ownsRow_nil _ _ _ _, HD.out, HB.out⟩⟩
  case round =>
    obtain ⟨j, hj, rfl, HQ⟩ := hrel
    have hlen := Lib.hid (diceBs_len t j k1)
    by_cases hlt : (j : Int) < N
    · have hbd := byteAt_bd t (diceBs t j k1).2
      have hsz : w.heap.size ≤ wr.heap.size := HQ.out.2.2.size
      go_wp2_with fail
      refine (diceOf_any L D t (diceBs t j k1).2 _ 7 7 byteTab _ (HQ.out.2.1.later ((Below.refl _ _).alloc (Nat.le_refl _) _)) (Row.of_block (cs := (intsV byteTab).toArray) (heap_alloc_new _ _) rfl) (fun ad e => by injection e with e; subst e; show wr.heap.size ≠ D; omega) (by omega) (by omega)).mono ?_
      rintro e w2 ⟨rfl, hd, hb⟩
      rw [show byteTab.getD (diceV t (diceBs t j k1).2 ((7 : Nat) : Int)).toNat 0 = byteAt t (diceBs t j k1).2 from rfl]
      have ho : BOwn w2 w.heap.size _ (diceBs t j k1).1 := own_but (World.ownsRow.alloc HQ.out.1 _) hb hD
      have hb2 := HQ.out.2.2.trans ((But.of ((Below.refl _ _).alloc (Nat.le_refl _) _)).trans hb)
      have HX : Hid (w8 (UInt8.ofNat (byteAt t (diceBs t j k1).2).toNat) = byteAt t (diceBs t j k1).2) := by
        unfold Hid w8; rw [UInt8.toNat_ofNat']; omega
      have HN : Hid (diceBs t (j + 1) k1 = ((diceBs t j k1).1 ++ [UInt8.ofNat (byteAt t (diceBs t j k1).2).toNat], diceK t (diceBs t j k1).2)) := Lib.hid rfl
      generalize byteAt t (diceBs t j k1).2 = x at hbd HX HN ⊢
      have HO := Lib.hid ho; have HD2 := Lib.hid hd; have HB2 := Lib.hid hb2; clear ho hd hb hb2
      go_wp2_with (at_builtin; go_must (refine wpList_app_new w2 rfl (.tmp 15) (.tmp 20) 119 5 rfl w.heap.size Tryz.underlying119 u8_info rfl _ _ _ HO.out rfl 1 #[.int .u8 x] rfl (by simp [Value.oneCell']) rfl rfl (by rw [hlen.out]; unfold maxLen; omega) (by rw [hlen.out]; omega) HB2.out.size ?_); intro v3 w3 ho3 hb3; have HO3 := Lib.hid ho3; have HB3 := Lib.hid hb3; clear ho3 hb3)
      refine ⟨⟨j + 1, by omega, by go_num, Lib.hid ⟨?_, ?_, ?_⟩⟩, by simp [intOf]; omega⟩
      · rw [HN.out]
        unfold BOwn
        rw [bytesV_app, List.length_append]
        have h := HO3.out
        rw [← HX.out] at h
        exact h
      · rw [HN.out]; exact HD2.out.below HB3.out hD
      · exact HB2.out.grow HB3.out
    · have hj2 : (j : Int) = N := by omega
      have hn : N.toNat = j := by omega
      have HJ := Lib.hid hn; clear hj2 hn
      go_wp2
      go_ret
      rw [HE.out, HJ.out]
      exact ⟨_, rfl, HQ.out.1, HQ.out.2.1, HQ.out.2.2⟩
end Go.Proofs.YtnmpbjgccbnomaaGreat
/- The walks of the dice's One and Digest. -/
namespace Go.Proofs.YtnmpbjgccbnomaaGreat
open Go.RowKit
/-- The dice are still there, more of their numbers given out perhaps, and nothing else has turned. -/
def Gave (L D : Nat) (t : List Int) (w w' : World) : Prop := (∃ k, DiceAt w' L D t k) ∧ But D w w'
theorem next_g (L D : Nat) (t : List Int) (m : Int) (w : World) (h : ∃ k, DiceAt w L D t k) (hm : 1 ≤ m) (hm2 : m ≤ 1000000) :
    Calls Tryz.prog 26 #[.pointer (some ⟨D, 0, none⟩), .int .i64 m] w fun e w' => ∃ v, e = .returned (.int .i64 v) ∧ 0 ≤ v ∧ v < m ∧ Gave L D t w w' := by
  obtain ⟨k, h⟩ := h
  refine (next_any L D t k m w h hm hm2).mono ?_
  rintro e w' ⟨rfl, hd, hb⟩
  exact ⟨_, rfl, (diceV_bd t k m hm).1, (diceV_bd t k m hm).2, ⟨_, hd⟩, hb⟩
theorem of_g (L D : Nat) (t : List Int) (A : Option Addr) (n c : Nat) (l : List Int) (w : World) (h : ∃ k, DiceAt w L D t k) (hl : Row w A n c 1 (intsV l)) (hs : ∀ ad, A = some ad → ad.block ≠ D) (h0 : 1 ≤ n) (hn : n ≤ 1000) :
    Calls Tryz.prog 72 #[.pointer (some ⟨D, 0, none⟩), .slice A n c] w fun e w' => ∃ v, e = .returned (.int .i64 v) ∧ v ∈ l ∧ Gave L D t w w' := by
  obtain ⟨k, h⟩ := h
  have hlen := hl.len
  rw [intsV_len, Nat.mul_one] at hlen
  have hv := diceV_bd t k n (by omega)
  refine (diceOf_any L D t k A n c l w h hl hs h0 hn).mono ?_
  rintro e w' ⟨rfl, hd, hb⟩
  refine ⟨_, rfl, ?_, ⟨_, hd⟩, hb⟩
  rw [List.getD_eq_getElem?_getD, List.getElem?_eq_getElem (by omega)]
  exact List.getElem_mem _
theorem one_g (L D : Nat) (t : List Int) (m : Int) (w : World) (h : ∃ k, DiceAt w L D t k) (hm : 1 ≤ m) (hm2 : m ≤ 1000) :
    Calls Tryz.prog 71 #[.pointer (some ⟨D, 0, none⟩), .int .i64 m] w fun e w' => ∃ b : Bool, e = .returned (.bool b) ∧ Gave L D t w w' := by
  go_enter Tryz.func71, Tryz.ntmps71
  go_wp2_with fail
  refine (next_g L D t m w h hm (by omega)).mono ?_
  rintro e w1 ⟨v, rfl, _, _, hg⟩
  have HG := Lib.hid hg; clear hg
  go_wp2
  go_ret
  exact ⟨_, rfl, HG.out⟩
set_option maxRecDepth 20000 in
set_option maxHeartbeats 1000000 in
theorem ddigest_g (L D : Nat) (t : List Int) (w : World) (h : ∃ k, DiceAt w L D t k) :
    Calls Tryz.prog 69 #[.pointer (some ⟨D, 0, none⟩)] w fun e w' => ∃ s : ByteArray, e = .returned (.string s) ∧ s.size = 32 ∧ Gave L D t w w' := by
  have hmk : ∀ w, (Instr.makeSlice 119 (.int .i64 32) (.int .i64 32)).run Tryz.prog w = .ok (.slice (some ⟨w.heap.size, 0, none⟩) 32 32) (w.alloc (.cells (List.replicate 32 (Value.int .u8 0)).toArray 5)) := fun _ => by kernel_rfl
  have HH : Hid (∃ k, DiceAt (w.alloc (.cells (List.replicate 32 (Value.int .u8 0)).toArray 5)) L D t k) := by obtain ⟨k, h⟩ := h; exact ⟨k, h.later (one_new w _)⟩
  have hD : D < w.heap.size := by obtain ⟨k, h⟩ := h; exact h.lt
  have HN := Lib.hid (But.of (D := D) (one_new w (.cells (List.replicate 32 (Value.int .u8 0)).toArray 5)))
  have HX := Lib.hid (heap_alloc_new w (.cells (List.replicate 32 (Value.int .u8 0)).toArray 5))
  have HZ : Hid (w.heap.size < (w.alloc (.cells (List.replicate 32 (Value.int .u8 0)).toArray 5)).heap.size) := Lib.hid (by simp)
  clear h
  go_enter Tryz.func69, Tryz.ntmps69
  go_wp2_with fail
  clear hmk
  refine (next_g L D t 4 _ HH.out (by omega) (by omega)).mono ?_
  generalize w.alloc (.cells (List.replicate 32 (Value.int .u8 0)).toArray 5) = y at HH HN HX HZ ⊢
  clear HH
  rintro e w1 ⟨x, rfl, hx0, hx4, hd, hb⟩
  have HD := Lib.hid hd; replace HX := Lib.hid ((hb.block w.heap.size HZ.out (by omega)).trans HX.out); replace HZ := Lib.hid (Nat.lt_of_lt_of_le HZ.out hb.size); replace HN := Lib.hid (HN.out.trans hb); clear hd hb
  go_wp2_with fail
  refine (next_g L D t 256 _ HD.out (by omega) (by omega)).mono ?_
  rintro e w2 ⟨z, rfl, hz0, hz4, hd, hb⟩
  replace HD := Lib.hid hd; replace HX := Lib.hid ((hb.block w.heap.size HZ.out (by omega)).trans HX.out); replace HZ := Lib.hid (Nat.lt_of_lt_of_le HZ.out hb.size); replace HN := Lib.hid (HN.out.trans hb); clear hd hb
  have hf0 : w2.frozen? ⟨w.heap.size, 0, none⟩ = false := frozen_of_row _ _ _ _ _ HX.out
  have hf1 : w2.frozen? ⟨w.heap.size, 31, none⟩ = false := frozen_of_row _ _ _ _ _ HX.out
  have hc0 : w2.cell? ⟨w.heap.size, 0, none⟩ = some (.int .u8 0) := by rw [cell_of_row _ _ _ _ _ _ HX.out]; rfl
  have hc1 : w2.cell? ⟨w.heap.size, 31, none⟩ = some (.int .u8 0) := by rw [cell_of_row _ _ _ _ _ _ HX.out]; rfl
  have e0 : IntKind.u8.wrap x = x := by have : IntKind.u8.wrap x = x % 256 := rfl; omega
  have e1 : IntKind.u8.wrap z = z := by have : IntKind.u8.wrap z = z % 256 := rfl; omega
  have hx : bv (UInt8.ofNat x.toNat) = .int .u8 x := by unfold bv w8; rw [UInt8.toNat_ofNat']; congr 1; omega
  have hz : bv (UInt8.ofNat z.toNat) = .int .u8 z := by unfold bv w8; rw [UInt8.toNat_ofNat']; congr 1; omega
  have h3 := heap_setCell_same (w2.setCell ⟨w.heap.size, 0, none⟩ (.int .u8 x)) w.heap.size 31 _ _ (Value.int .u8 z) (heap_setCell_same w2 w.heap.size 0 _ _ (Value.int .u8 x) HX.out)
  have hrow : BRow ((w2.setCell ⟨w.heap.size, 0, none⟩ (.int .u8 x)).setCell ⟨w.heap.size, 31, none⟩ (.int .u8 z)) (some ⟨w.heap.size, 0, none⟩) 32 32 (UInt8.ofNat x.toNat :: (List.replicate 30 0 ++ [UInt8.ofNat z.toNat])) := by
    have h4 := Row.of_block (n := 32) (sz := 1) h3 rfl
    have h5 : bytesV (UInt8.ofNat x.toNat :: (List.replicate 30 0 ++ [UInt8.ofNat z.toNat])) = bv (UInt8.ofNat x.toNat) :: (List.replicate 30 (Value.int .u8 0) ++ [bv (UInt8.ofNat z.toNat)]) := rfl
    unfold BRow
    rw [h5, hx, hz]
    exact h4
  have hcv := conv_at hrow (Below.refl _ _) rfl
  have hb3 : Below w.heap.size w2 ((w2.setCell ⟨w.heap.size, 0, none⟩ (.int .u8 x)).setCell ⟨w.heap.size, 31, none⟩ (.int .u8 z)) := Below.setCell (p := ⟨w.heap.size, 31, none⟩) (Below.setCell (p := ⟨w.heap.size, 0, none⟩) (Below.refl _ _) (Nat.le_refl _) _) (Nat.le_refl _) _
  have hd3 : ∃ k, DiceAt ((w2.setCell ⟨w.heap.size, 0, none⟩ (.int .u8 x)).setCell ⟨w.heap.size, 31, none⟩ (.int .u8 z)) L D t k := by obtain ⟨k, h⟩ := HD.out; exact ⟨k, h.below hb3 hD⟩
  have HD3 := Lib.hid hd3; have HB3 := Lib.hid (HN.out.grow hb3)
  clear hd3 hb3 hrow h3 hx hz
  go_wp2_with fail
  go_ret
  exact ⟨_, rfl, by rw [strOf_size]; rfl, HD3.out, HB3.out⟩
end Go.Proofs.YtnmpbjgccbnomaaGreat
