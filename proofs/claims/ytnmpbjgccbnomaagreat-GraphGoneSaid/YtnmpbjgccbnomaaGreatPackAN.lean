import Derived.Test.YtnmpbjgccbnomaaGreatLFollowsP
/- The walk of the reference's Counted. -/
namespace Go.Proofs.YtnmpbjgccbnomaaGreat
open Go.RowKit
/-- Whether statement i of an author's list goes on the chain of those before it. -/
def stepR (own : List Stm) (i : Nat) : Bool := decide ((own.getD i noStm).number = (i : Int)) && (!(decide (i + 1 < own.length) && decide ((own.getD (i + 1) noStm).number = (i : Int))) && (decide (i = 0) || (followsR (own.getD (i - 1) noStm) (own.getD i noStm) && !decide ((own.getD (i - 1) noStm).kind = 3))))
/-- How many count from the i-th on. -/
def countsFrom (own : List Stm) : Nat → Nat → Nat
  | 0, i => i
  | f + 1, i => if stepR own i then countsFrom own f (i + 1) else i
/-- What counts of an author (the reference's way). -/
def countedR (au : Int) (l : List Stm) : List Stm := (ownL au l).take (countsFrom (ownL au l) (ownL au l).length 0)
theorem countsFrom_ge (own : List Stm) : ∀ f i, i ≤ countsFrom own f i
  | 0, i => Nat.le_refl _
  | f + 1, i => by
    unfold countsFrom
    split
    · have := countsFrom_ge own f (i + 1); omega
    · omega
theorem countsFrom_step (own : List Stm) (f i : Nat) (h : i < f) (hs : stepR own i = true) : countsFrom own (f - i) i = countsFrom own (f - (i + 1)) (i + 1) := by
  rw [show f - i = (f - (i + 1)) + 1 by omega, countsFrom, if_pos hs]
theorem countsFrom_stop (own : List Stm) (f i : Nat) (h : i < f) (hs : stepR own i = false) : countsFrom own (f - i) i = i := by
  rw [show f - i = (f - (i + 1)) + 1 by omega, countsFrom, if_neg (by rw [hs]; decide)]
/-- What is known of each statement that was passed. -/
theorem countsFrom_all (own : List Stm) : ∀ f i k, i ≤ k → k < countsFrom own f i → stepR own k = true
  | 0, i, k, h1, h2 => by unfold countsFrom at h2; omega
  | f + 1, i, k, h1, h2 => by
    unfold countsFrom at h2
    split at h2
    · rename_i hs
      by_cases he : k = i
      · rw [he]; exact hs
      · exact countsFrom_all own f (i + 1) k (by omega) h2
    · omega
theorem pieceEnd_go {P : Program} {ops : Array Oper} {F : World → World → Prop} {Q : Act → World → Prop} {last : List Oper} {a : Act} {w w' : World} (hF : F w w') (h : wpQuiet P ops (Futs F w') (fun a' => Q a' w') last a) : pieceEnd (fun a'' w'' => F w w'' ∧ wpGrow P ops F Q last [] a'' w'') .normal a w' := ⟨hF, h⟩
theorem take_snocP (l : List Pl) (k : Nat) (h : k < l.length) : l.take (k + 1) = l.take k ++ [l.getD k noPl] := by
  rw [List.take_add_one, List.getElem?_eq_getElem h, List.getD_eq_getElem?_getD, List.getElem?_eq_getElem h]; rfl

set_option maxRecDepth 100000 in
set_option maxHeartbeats 4000000 in
theorem refCounted_hi (au : Int) (A : Option Addr) (n c : Nat) (l : List Pl) (w : World) (hl : LRow w A n c l) (hn : n ≤ 100000) (hs : ∀ p ∈ l, Small p.s) :
    Calls Tryz.prog 22 #[.int .i64 au, .slice A n c] w fun e w' => ∃ v l', e = .returned v ∧ l'.map (·.s) = countedR au (l.map (·.s)) ∧ LOwn w' w.heap.size v l' ∧ HiL w.heap.size l' ∧ Below w.heap.size w w' := by
  have HOW := Lib.hid (own_any au A n c l w hl hn hs)
  have HLN : Hid ((ownL au (l.map (·.s))).length ≤ n) := Lib.hid (by have := ownL_len au (l.map (·.s)); rw [List.length_map, hl.len] at this; exact this)
  have HSM : Hid (∀ s ∈ ownL au (l.map (·.s)), Small s) := Lib.hid fun s h => by
    obtain ⟨r, hr, he⟩ := List.mem_map.1 (ownL_mem h).1
    rw [← he]; exact hs r hr
  have HCR : Hid (countedR au (l.map (·.s)) = (ownL au (l.map (·.s))).take (countsFrom (ownL au (l.map (·.s))) (ownL au (l.map (·.s))).length 0)) := Lib.hid rfl
  generalize countedR au (l.map (·.s)) = CR at *
  generalize ownL au (l.map (·.s)) = OW at *
  clear hl hs
  go_enter Tryz.func22, Tryz.ntmps22
  go_wp2_with fail
  refine HOW.out.mono ?_
  clear HOW
  rintro e w0 ⟨A1, c1, own, rfl, hm, hr, hhi, hb⟩
  have HHI := Lib.hid hhi; clear hhi
  have HM := Lib.hid hm; have HR := Lib.hid hr; have HB := Lib.hid hb
  have hlo : own.length ≤ n := by have h1 := congrArg List.length hm; have h2 := HLN.out; rw [List.length_map] at h1; omega
  have HS : Hid (∀ p ∈ own, Small p.s) := Lib.hid fun p hp => HSM.out _ (by rw [← hm]; exact List.mem_map_of_mem hp)
  clear hm hr hb HSM HLN
  go_wp2_with fail
  go_loopw [6, 7, 8, 57, 58] (fun v i _ x57 x58 wr => ∃ k : Nat, k ≤ own.length ∧ i = .int .i64 k ∧ Hid (k = 0 → x57 = undef ∧ x58 = undef) ∧ Hid (LOwn wr w0.heap.size v (own.take k) ∧ Below w0.heap.size w0 wr ∧ countsFrom OW (OW.length - k) k = countsFrom OW OW.length 0)) (fun _ i _ _ _ _ => own.length - (intOf i).toNat)
  case atStart => exact ⟨0, Nat.zero_le _, rfl, Lib.hid (fun _ => ⟨rfl, rfl⟩), Lib.hid ⟨LOwn.nil _ _, Below.refl _ _, rfl⟩⟩
  case round =>
    obtain ⟨k, hk, rfl, HUN, HQ⟩ := hrel
    have HLK : Hid ((own.take k).length = k) := Lib.hid (by rw [List.length_take]; omega)
    obtain ⟨A2, c2, hv, hr2⟩ := HQ.out.1.row
    rw [HLK.out] at hv hr2
    subst hv
    have HR2 := Lib.hid hr2; clear hr2
    have HST : Hid (∀ i, i < own.length → OW.getD i noStm = (own.getD i noPl).s) := Lib.hid fun i _ => by rw [← HM.out]; exact getD_s own i
    have HOL : Hid (OW.length = own.length) := Lib.hid (by rw [← HM.out, List.length_map])
    have HNUM : Hid (0 < k → (own.getD (k - 1) noPl).s.number = ((k - 1 : Nat) : Int)) := Lib.hid fun h0 => by
      have h1 : k ≤ countsFrom OW OW.length 0 := by rw [← HQ.out.2.2]; exact countsFrom_ge _ _ _
      have h2 := countsFrom_all OW OW.length 0 (k - 1) (Nat.zero_le _) (by omega)
      unfold stepR at h2
      rw [Bool.and_eq_true] at h2
      rw [← HST.out (k - 1) (by omega)]
      exact of_decide_eq_true h2.1
    by_cases hlt : k < own.length
    · have HRK := Lib.hid (HR.out.later HQ.out.2.1)
      obtain ⟨b, off, hA, hc⟩ := HRK.out.cells k hlt
      subst hA
      have hlt2 : (k : Int) < (own.length : Int) := by omega
      have hc1 : wr.cell? ⟨b, off + k * 13 + 1, none⟩ = some (.int .i64 (own.getD k noPl).s.number) := hc 1 (by rw [Pl.size]; decide)
      clear hc
      by_cases g1 : (own.getD k noPl).s.number = (k : Int)
      · have b1 : ((own.getD k noPl).s.number != (k : Int)) = false := by rw [g1]; simp
        have G1 := Lib.hid g1; clear g1
        generalize hx1 : (own.getD k noPl).s.number = x1 at hc1 b1
        clear hx1
        by_cases g2 : k + 1 < own.length
        · obtain ⟨b2', off2', hA', hc'⟩ := HRK.out.cells (k + 1) g2
          injection hA' with hA'
          injection hA' with ha ho
          subst ha ho
          have hc2 : wr.cell? ⟨b, off + (k + 1) * 13 + 1, none⟩ = some (.int .i64 (own.getD (k + 1) noPl).s.number) := hc' 1 (by rw [Pl.size]; decide)
          have g22 : (k : Int) + 1 < (own.length : Int) := by omega
          have b2 : decide ((k : Int) + 1 < (own.length : Int)) = true := decide_eq_true g22
          have e5 : ((k : Int) + 1).toNat = k + 1 := by omega
          clear hc'
          by_cases g3 : (own.getD (k + 1) noPl).s.number = (k : Int)
          · have b3 : ((own.getD (k + 1) noPl).s.number == (k : Int)) = true := by rw [g3]; simp
            have G3 := Lib.hid g3; clear g3
            generalize hx2 : (own.getD (k + 1) noPl).s.number = x2 at hc2 b3
            clear hx2
            have HSTOP : Hid (countsFrom OW (OW.length - k) k = k) := Lib.hid (countsFrom_stop OW OW.length k (by rw [HOL.out]; exact hlt) (by
              unfold stepR
              rw [HST.out k hlt, HST.out (k + 1) g2, decide_eq_true G3.out, HOL.out, decide_eq_true g2]; simp))
            have HQ2 := HQ
            clear HQ
            go_wp2_with fail
            go_ret
            have HEND : Hid ((own.take k).map (·.s) = CR) := Lib.hid (by rw [HCR.out, ← HQ2.out.2.2, HSTOP.out, ← HM.out, List.map_take])
            first | exact ⟨_, rfl, own.take k, HEND.out, HQ2.out.1.mono HB.out.size, HHI.out.take _, HB.out.trans (HQ2.out.2.1.mono HB.out.size)⟩ | exact ⟨_, own.take k, rfl, HEND.out, HQ2.out.1.mono HB.out.size, HHI.out.take _, HB.out.trans (HQ2.out.2.1.mono HB.out.size)⟩
          · have b3 : ((own.getD (k + 1) noPl).s.number == (k : Int)) = false := by rw [beq_eq_false_iff_ne]; exact g3
            have HMORE : Hid ((!(decide (k + 1 < OW.length) && decide ((OW.getD (k + 1) noStm).number = (k : Int)))) = true) := Lib.hid (by rw [HST.out (k + 1) g2, decide_eq_false g3, Bool.and_false]; rfl)
            clear g3
            generalize hx2 : (own.getD (k + 1) noPl).s.number = x2 at hc2 b3
            clear hx2
            go_upto_region 8 with fail
            clear hc1 hc2 b1 b2 b3 g22 e5
            by_cases g4 : k = 0
            · have HSTEP : Hid (countsFrom OW (OW.length - k) k = countsFrom OW (OW.length - (k + 1)) (k + 1)) := Lib.hid (countsFrom_step OW OW.length k (by rw [HOL.out]; exact hlt) (by
                unfold stepR
                rw [HST.out k hlt, decide_eq_true G1.out, HMORE.out, decide_eq_true g4]; rfl))
              have HK0 := Lib.hid g4
              have b4 : decide ((0 : Int) < (k : Int)) = false := by rw [g4]; rfl
              have b5 : decide (0 < k) = false := by rw [g4]; rfl
              obtain ⟨hu1, hu2⟩ := HUN.out g4
              subst hu1 hu2
              clear g4 HMORE HUN
              go_wp2_with fail
              refine wp_region_grow (by kernel_rfl) Later Later.refl (fun _ _ _ => Later.trans) [13, 14, 15, 16, 17, 18, 19, 20, 21, 22, 23] [([0, 1, 2, 3, 4, 5, 6, 7, 8, 9, 10, 11], 12)] (by kernel_rfl) (by kernel_rfl) (by kernel_rfl) ?_
              simp only [List.map_cons, List.map_nil, pick, List.getD_cons_zero, List.getD_cons_succ]
              have HQ3 : Hid (LOwn wr.drew w0.heap.size (.slice A2 k c2) (own.take k) ∧ Below w0.heap.size w0 wr.drew ∧ countsFrom OW (OW.length - k) k = countsFrom OW OW.length 0) := Lib.hid ⟨HQ.out.1.later (Below.refl _ wr).drew, HQ.out.2.1.drew, HQ.out.2.2⟩
              have HR3 : Hid (LRow wr.drew A2 k c2 (own.take k)) := Lib.hid (HR2.out.later (Below.refl _ wr).drew)
              clear HQ HR2
              generalize wr.drew = z0 at *
              refine wpGrow_cons ?_
              repeat (go_big_quiet_step (fail))
              refine wpQuiet_nil ?_
              go_wp2_with fail
              have HF : Hid (Later z0 z0) := Lib.hid (Later.refl _)
              go_wp2_with fail
              refine pieceEnd_go HF.out ?_
              clear HF
              skip
              repeat (go_big_quiet_step (fail))
              refine wpQuiet_nil ?_
              clear b4 b5
              obtain ⟨b5, off5, hA5, hc5⟩ := LRow.cells (HR.out.later HQ3.out.2.1) k hlt
              injection hA5 with hA5
              injection hA5 with ha ho
              subst ha ho
              have HPK : Hid (PlOk z0 (own.getD k noPl)) := Lib.hid ((HR.out.later HQ3.out.2.1).at k hlt)
              have HCL : Hid (∀ v' : Value, (∀ i, v'.ownBlock = some i → w0.heap.size ≤ i) → Clear v' (own.getD k noPl)) := Lib.hid fun v' h => (HR.out.at k hlt).clear h
              have HTK := Lib.hid (take_snocP own k hlt)
              have HC5 := Lib.hid hc5
              clear hc5
              generalize hpk : own.getD k noPl = r at HPK HCL HTK HC5
              clear hpk
              have hvs : r.arr.size = 13 := rfl
              go_wp2_with (first | (refine wpList_load_cells rfl 48 (.tmp 71) rfl b (off + k * 13) rfl r.arr _ Tryz.underlying48 rfl r.info HC5.out ?_) | (at_builtin; (first | rw [fold13] | (rw [← hvs, fold13])); go_must (refine wpList_app_newK z0 rfl (.tmp 68) (.tmp 73) 27 48 rfl w0.heap.size Tryz.underlying27 stm_info rfl _ (own.take k).length (plsC (own.take k)) HQ3.out.1.own rfl 1 r.arr rfl r.ones rfl rfl (by unfold maxLen; rw [HLK.out]; omega) (by rw [HLK.out]; omega) HQ3.out.2.1.size ?_); intro x3 z3 ho hb hk1 hk2; rw [show r.arr.toList = plsC [r] from rfl] at ho; have HO3 := Lib.hid (HQ3.out.1.app (m := [r]) (fun s hs => by rw [List.mem_singleton.1 hs]; exact ⟨HPK.out, HCL.out _ (own_ge HQ3.out.1.own)⟩) ho hk1 hk2); have HB3 := Lib.hid (HQ3.out.2.1.trans hb); clear ho hb hk1 hk2))
              exact ⟨⟨k + 1, hlt, by go_num, Lib.hid (fun h => absurd h (Nat.succ_ne_zero k)), Lib.hid ⟨by rw [HTK.out]; exact HO3.out, HB3.out, by rw [← HSTEP.out]; exact HQ3.out.2.2⟩⟩, by simp [intOf]; omega⟩
            · have e0 : (0 : Int) ≤ (k : Int) - 1 := by omega
              have e1 : (k : Int) - 1 < (k : Int) := by omega
              have e2 : ((k : Int) - 1).toNat = k - 1 := by omega
              have b4 : decide ((0 : Int) < (k : Int)) = true := decide_eq_true (by omega)
              have b5 : decide (0 < k) = true := decide_eq_true (by omega)
              have hk1 : k - 1 < own.length := by omega
              have HSQ : Hid (stepR OW k = (followsR (own.getD (k - 1) noPl).s (own.getD k noPl).s && !decide ((own.getD (k - 1) noPl).s.kind = 3))) := Lib.hid (by
                unfold stepR
                rw [HST.out k hlt, HST.out (k - 1) hk1, decide_eq_true G1.out, HMORE.out, decide_eq_false g4, Bool.true_and, Bool.false_or]; rfl)
              have HP0 : Hid (0 ≤ (own.getD (k - 1) noPl).s.number ∧ (own.getD (k - 1) noPl).s.number ≤ 1000000) := Lib.hid (by
                have h := HNUM.out (by omega : 0 < k)
                omega)
              have HFO : Hid (∀ y, Below w0.heap.size w0 y → Calls Tryz.prog 43 #[.agg (own.getD (k - 1) noPl).arr, .agg (own.getD k noPl).arr] y (SaysL (.bool (followsR (own.getD (k - 1) noPl).s (own.getD k noPl).s)) y)) := Lib.hid fun y h => followsP_any _ _ y ((HR.out.at (k - 1) hk1).later h) (HS.out _ (HR.out.get (k - 1) hk1)) HP0.out
              clear HMORE HP0 g4
              have HGET : Hid ((own.take k).getD (k - 1) noPl = own.getD (k - 1) noPl) := Lib.hid (by
                simp only [List.getD_eq_getElem?_getD]; rw [List.getElem?_take_of_lt (by omega)])
              go_wp2_with fail
              refine wp_region_grow (by kernel_rfl) Later Later.refl (fun _ _ _ => Later.trans) [13, 14, 15, 16, 17, 18, 19, 20, 21, 22, 23] [([0, 1, 2, 3, 4, 5, 6, 7, 8, 9, 10, 11], 12)] (by kernel_rfl) (by kernel_rfl) (by kernel_rfl) ?_
              simp only [List.map_cons, List.map_nil, pick, List.getD_cons_zero, List.getD_cons_succ]
              have HQ3 : Hid (LOwn wr.drew w0.heap.size (.slice A2 k c2) (own.take k) ∧ Below w0.heap.size w0 wr.drew ∧ countsFrom OW (OW.length - k) k = countsFrom OW OW.length 0) := Lib.hid ⟨HQ.out.1.later (Below.refl _ wr).drew, HQ.out.2.1.drew, HQ.out.2.2⟩
              have HR3 : Hid (LRow wr.drew A2 k c2 (own.take k)) := Lib.hid (HR2.out.later (Below.refl _ wr).drew)
              clear HQ HR2
              generalize wr.drew = z0 at *
              obtain ⟨b2, off2, hA2, hf⟩ := LRow.futs (F := Later) Later.refl (fun _ h => h) HR3.out (k - 1) (by omega)
              subst hA2
              obtain ⟨b3, off3, hA3, hg⟩ := LRow.futs (F := Later) Later.refl (fun _ h => h) (HR.out.later HQ3.out.2.1) k hlt
              injection hA3 with hA3
              injection hA3 with ha ho
              subst ha ho
              rw [HGET.out] at hf
              have HS2 := Lib.hid HSQ.out
              generalize own.getD (k - 1) noPl = p at hf HSQ HFO HGET HS2
              generalize hq : own.getD k noPl = q at hg HSQ HFO HS2
              have HQE := Lib.hid hq; clear hq
              have hf2 := cells_futs hf; have hg2 := cells_futs hg
              clear hf hg
              refine wpGrow_cons ?_
              repeat (first | (refine wpQuiet_load rfl 48 (.tmp 50) rfl ⟨b2, off2 + (k - 1) * 13, none⟩ rfl (.agg p.arr) (fun w' h => by obtain ⟨x, rfl⟩ := h; exact hf2 x) ?_; simp only [Act.put, List.setIfInBounds_toArray, List.set_cons_succ, List.set_cons_zero]) | (refine wpQuiet_load rfl 48 (.tmp 54) rfl ⟨b, off + k * 13, none⟩ rfl (.agg q.arr) (fun w' h => by obtain ⟨x, rfl⟩ := h; exact hg2 x) ?_; simp only [Act.put, List.setIfInBounds_toArray, List.set_cons_succ, List.set_cons_zero]) | go_big_quiet_step (fail))
              refine wpQuiet_nil ?_
              clear hf2 hg2
              go_wp2_with fail
              refine (HFO.out z0 HQ3.out.2.1).mono ?_
              rintro e w2 ⟨rfl, hb⟩
              have HF : Hid (Later z0 w2) := Lib.hid hb
              have HQ4 : Hid (LOwn w2 w0.heap.size (.slice (some ⟨b2, off2, none⟩) k c2) (own.take k) ∧ Below w0.heap.size w0 w2 ∧ countsFrom OW (OW.length - k) k = countsFrom OW OW.length 0) := Lib.hid ⟨HQ3.out.1.later hb, HQ3.out.2.1.trans (hb.mono HQ3.out.2.1.size), HQ3.out.2.2⟩
              have HR4 : Hid (LRow w2 (some ⟨b2, off2, none⟩) k c2 (own.take k)) := Lib.hid (HR3.out.later hb)
              clear hb HQ3 HR3
              by_cases g5 : followsR p.s q.s = true
              · rw [g5]
                have HS3 : Hid (stepR OW k = !decide (p.s.kind = 3)) := Lib.hid (by rw [HS2.out, g5, Bool.true_and])
                clear g5 HFO HSQ HS2
                go_wp2_with fail
                refine pieceEnd_go HF.out ?_
                clear HF
                obtain ⟨b4', off4, hA4, hf⟩ := LRow.futs (F := Later) Later.refl (fun _ h => h) HR4.out (k - 1) (by omega)
                injection hA4 with hA4
                injection hA4 with ha ho
                subst ha ho
                rw [HGET.out] at hf
                have hf4 : ∀ x, (fut Later w2 x).cell? ⟨b2, off2 + (k - 1) * 13 + 4, none⟩ = some (.int .i64 p.s.kind) := fun x => hf x 4 (by rw [Pl.size]; decide)
                clear hf
                by_cases g6 : p.s.kind = 3
                · have b6 : (p.s.kind == 3) = true := by simp [g6]
                  have HSTOP : Hid (countsFrom OW (OW.length - k) k = k) := Lib.hid (countsFrom_stop OW OW.length k (by rw [HOL.out]; exact hlt) (by rw [HS3.out, decide_eq_true g6]; rfl))
                  clear g6
                  skip
                  repeat (go_big_quiet_step (fail))
                  refine wpQuiet_nil ?_
                  clear hf4 HS3
                  have HQ2 := HQ4
                  clear HQ4
                  go_wp2_with fail
                  go_ret
                  have HEND : Hid ((own.take k).map (·.s) = CR) := Lib.hid (by rw [HCR.out, ← HQ2.out.2.2, HSTOP.out, ← HM.out, List.map_take])
                  first | exact ⟨_, rfl, own.take k, HEND.out, HQ2.out.1.mono HB.out.size, HHI.out.take _, HB.out.trans (HQ2.out.2.1.mono HB.out.size)⟩ | exact ⟨_, own.take k, rfl, HEND.out, HQ2.out.1.mono HB.out.size, HHI.out.take _, HB.out.trans (HQ2.out.2.1.mono HB.out.size)⟩
                · have b6 : (p.s.kind == 3) = false := by simpa using g6
                  have HSTEP : Hid (countsFrom OW (OW.length - k) k = countsFrom OW (OW.length - (k + 1)) (k + 1)) := Lib.hid (countsFrom_step OW OW.length k (by rw [HOL.out]; exact hlt) (by rw [HS3.out, decide_eq_false g6]; rfl))
                  clear g6
                  refine wpGrow_nil ?_
                  repeat (go_big_quiet_step (fail))
                  refine wpQuiet_nil ?_
                  clear hf4 HS3 e0 e1 e2 b4 b5 b6
                  obtain ⟨b5, off5, hA5, hc5⟩ := LRow.cells (HR.out.later HQ4.out.2.1) k hlt
                  injection hA5 with hA5
                  injection hA5 with ha ho
                  subst ha ho
                  have HPK : Hid (PlOk w2 (own.getD k noPl)) := Lib.hid ((HR.out.later HQ4.out.2.1).at k hlt)
                  have HCL : Hid (∀ v' : Value, (∀ i, v'.ownBlock = some i → w0.heap.size ≤ i) → Clear v' (own.getD k noPl)) := Lib.hid fun v' h => (HR.out.at k hlt).clear h
                  have HTK := Lib.hid (take_snocP own k hlt)
                  have HC5 := Lib.hid hc5
                  clear hc5
                  generalize hpk : own.getD k noPl = r at HPK HCL HTK HC5
                  clear hpk
                  have hvs : r.arr.size = 13 := rfl
                  go_wp2_with (first | (refine wpList_load_cells rfl 48 (.tmp 71) rfl b (off + k * 13) rfl r.arr _ Tryz.underlying48 rfl r.info HC5.out ?_) | (at_builtin; (first | rw [fold13] | (rw [← hvs, fold13])); go_must (refine wpList_app_newK w2 rfl (.tmp 68) (.tmp 73) 27 48 rfl w0.heap.size Tryz.underlying27 stm_info rfl _ (own.take k).length (plsC (own.take k)) HQ4.out.1.own rfl 1 r.arr rfl r.ones rfl rfl (by unfold maxLen; rw [HLK.out]; omega) (by rw [HLK.out]; omega) HQ4.out.2.1.size ?_); intro x3 z3 ho hb hk1 hk2; rw [show r.arr.toList = plsC [r] from rfl] at ho; have HO3 := Lib.hid (HQ4.out.1.app (m := [r]) (fun s hs => by rw [List.mem_singleton.1 hs]; exact ⟨HPK.out, HCL.out _ (own_ge HQ4.out.1.own)⟩) ho hk1 hk2); have HB3 := Lib.hid (HQ4.out.2.1.trans hb); clear ho hb hk1 hk2))
                  exact ⟨⟨k + 1, hlt, by go_num, Lib.hid (fun h => absurd h (Nat.succ_ne_zero k)), Lib.hid ⟨by rw [HTK.out]; exact HO3.out, HB3.out, by rw [← HSTEP.out]; exact HQ4.out.2.2⟩⟩, by simp [intOf]; omega⟩
              · rw [show followsR p.s q.s = false by simpa using g5]
                have HSTOP : Hid (countsFrom OW (OW.length - k) k = k) := Lib.hid (countsFrom_stop OW OW.length k (by rw [HOL.out]; exact hlt) (by rw [HS2.out, show followsR p.s q.s = false by simpa using g5]; rfl))
                clear g5 HFO HSQ HS2
                go_wp2_with fail
                refine pieceEnd_go HF.out ?_
                clear HF
                skip
                repeat (go_big_quiet_step (fail))
                refine wpQuiet_nil ?_
                have HQ2 := HQ4
                clear HQ4
                go_wp2_with fail
                go_ret
                have HEND : Hid ((own.take k).map (·.s) = CR) := Lib.hid (by rw [HCR.out, ← HQ2.out.2.2, HSTOP.out, ← HM.out, List.map_take])
                first | exact ⟨_, rfl, own.take k, HEND.out, HQ2.out.1.mono HB.out.size, HHI.out.take _, HB.out.trans (HQ2.out.2.1.mono HB.out.size)⟩ | exact ⟨_, own.take k, rfl, HEND.out, HQ2.out.1.mono HB.out.size, HHI.out.take _, HB.out.trans (HQ2.out.2.1.mono HB.out.size)⟩
        · have g22 : ¬ (k : Int) + 1 < (own.length : Int) := by omega
          have b2 : decide ((k : Int) + 1 < (own.length : Int)) = false := decide_eq_false g22
          have HMORE : Hid ((!(decide (k + 1 < OW.length) && decide ((OW.getD (k + 1) noStm).number = (k : Int)))) = true) := Lib.hid (by rw [HOL.out, decide_eq_false g2, Bool.false_and]; rfl)
          go_upto_region 8 with fail
          clear hc1 b1 b2 g22
          by_cases g4 : k = 0
          · have HSTEP : Hid (countsFrom OW (OW.length - k) k = countsFrom OW (OW.length - (k + 1)) (k + 1)) := Lib.hid (countsFrom_step OW OW.length k (by rw [HOL.out]; exact hlt) (by
              unfold stepR
              rw [HST.out k hlt, decide_eq_true G1.out, HMORE.out, decide_eq_true g4]; rfl))
            have HK0 := Lib.hid g4
            have b4 : decide ((0 : Int) < (k : Int)) = false := by rw [g4]; rfl
            have b5 : decide (0 < k) = false := by rw [g4]; rfl
            obtain ⟨hu1, hu2⟩ := HUN.out g4
            subst hu1 hu2
            clear g4 HMORE HUN
            go_wp2_with fail
            refine wp_region_grow (by kernel_rfl) Later Later.refl (fun _ _ _ => Later.trans) [13, 14, 15, 16, 17, 18, 19, 20, 21, 22, 23] [([0, 1, 2, 3, 4, 5, 6, 7, 8, 9, 10, 11], 12)] (by kernel_rfl) (by kernel_rfl) (by kernel_rfl) ?_
            simp only [List.map_cons, List.map_nil, pick, List.getD_cons_zero, List.getD_cons_succ]
            have HQ3 : Hid (LOwn wr.drew w0.heap.size (.slice A2 k c2) (own.take k) ∧ Below w0.heap.size w0 wr.drew ∧ countsFrom OW (OW.length - k) k = countsFrom OW OW.length 0) := Lib.hid ⟨HQ.out.1.later (Below.refl _ wr).drew, HQ.out.2.1.drew, HQ.out.2.2⟩
            have HR3 : Hid (LRow wr.drew A2 k c2 (own.take k)) := Lib.hid (HR2.out.later (Below.refl _ wr).drew)
            clear HQ HR2
            generalize wr.drew = z0 at *
            refine wpGrow_cons ?_
            repeat (go_big_quiet_step (fail))
            refine wpQuiet_nil ?_
            go_wp2_with fail
            have HF : Hid (Later z0 z0) := Lib.hid (Later.refl _)
            go_wp2_with fail
            refine pieceEnd_go HF.out ?_
            clear HF
            skip
            repeat (go_big_quiet_step (fail))
            refine wpQuiet_nil ?_
            clear b4 b5
            obtain ⟨b5, off5, hA5, hc5⟩ := LRow.cells (HR.out.later HQ3.out.2.1) k hlt
            injection hA5 with hA5
            injection hA5 with ha ho
            subst ha ho
            have HPK : Hid (PlOk z0 (own.getD k noPl)) := Lib.hid ((HR.out.later HQ3.out.2.1).at k hlt)
            have HCL : Hid (∀ v' : Value, (∀ i, v'.ownBlock = some i → w0.heap.size ≤ i) → Clear v' (own.getD k noPl)) := Lib.hid fun v' h => (HR.out.at k hlt).clear h
            have HTK := Lib.hid (take_snocP own k hlt)
            have HC5 := Lib.hid hc5
            clear hc5
            generalize hpk : own.getD k noPl = r at HPK HCL HTK HC5
            clear hpk
            have hvs : r.arr.size = 13 := rfl
            go_wp2_with (first | (refine wpList_load_cells rfl 48 (.tmp 71) rfl b (off + k * 13) rfl r.arr _ Tryz.underlying48 rfl r.info HC5.out ?_) | (at_builtin; (first | rw [fold13] | (rw [← hvs, fold13])); go_must (refine wpList_app_newK z0 rfl (.tmp 68) (.tmp 73) 27 48 rfl w0.heap.size Tryz.underlying27 stm_info rfl _ (own.take k).length (plsC (own.take k)) HQ3.out.1.own rfl 1 r.arr rfl r.ones rfl rfl (by unfold maxLen; rw [HLK.out]; omega) (by rw [HLK.out]; omega) HQ3.out.2.1.size ?_); intro x3 z3 ho hb hk1 hk2; rw [show r.arr.toList = plsC [r] from rfl] at ho; have HO3 := Lib.hid (HQ3.out.1.app (m := [r]) (fun s hs => by rw [List.mem_singleton.1 hs]; exact ⟨HPK.out, HCL.out _ (own_ge HQ3.out.1.own)⟩) ho hk1 hk2); have HB3 := Lib.hid (HQ3.out.2.1.trans hb); clear ho hb hk1 hk2))
            exact ⟨⟨k + 1, hlt, by go_num, Lib.hid (fun h => absurd h (Nat.succ_ne_zero k)), Lib.hid ⟨by rw [HTK.out]; exact HO3.out, HB3.out, by rw [← HSTEP.out]; exact HQ3.out.2.2⟩⟩, by simp [intOf]; omega⟩
          · have e0 : (0 : Int) ≤ (k : Int) - 1 := by omega
            have e1 : (k : Int) - 1 < (k : Int) := by omega
            have e2 : ((k : Int) - 1).toNat = k - 1 := by omega
            have b4 : decide ((0 : Int) < (k : Int)) = true := decide_eq_true (by omega)
            have b5 : decide (0 < k) = true := decide_eq_true (by omega)
            have hk1 : k - 1 < own.length := by omega
            have HSQ : Hid (stepR OW k = (followsR (own.getD (k - 1) noPl).s (own.getD k noPl).s && !decide ((own.getD (k - 1) noPl).s.kind = 3))) := Lib.hid (by
              unfold stepR
              rw [HST.out k hlt, HST.out (k - 1) hk1, decide_eq_true G1.out, HMORE.out, decide_eq_false g4, Bool.true_and, Bool.false_or]; rfl)
            have HP0 : Hid (0 ≤ (own.getD (k - 1) noPl).s.number ∧ (own.getD (k - 1) noPl).s.number ≤ 1000000) := Lib.hid (by
              have h := HNUM.out (by omega : 0 < k)
              omega)
            have HFO : Hid (∀ y, Below w0.heap.size w0 y → Calls Tryz.prog 43 #[.agg (own.getD (k - 1) noPl).arr, .agg (own.getD k noPl).arr] y (SaysL (.bool (followsR (own.getD (k - 1) noPl).s (own.getD k noPl).s)) y)) := Lib.hid fun y h => followsP_any _ _ y ((HR.out.at (k - 1) hk1).later h) (HS.out _ (HR.out.get (k - 1) hk1)) HP0.out
            clear HMORE HP0 g4
            have HGET : Hid ((own.take k).getD (k - 1) noPl = own.getD (k - 1) noPl) := Lib.hid (by
              simp only [List.getD_eq_getElem?_getD]; rw [List.getElem?_take_of_lt (by omega)])
            go_wp2_with fail
            refine wp_region_grow (by kernel_rfl) Later Later.refl (fun _ _ _ => Later.trans) [13, 14, 15, 16, 17, 18, 19, 20, 21, 22, 23] [([0, 1, 2, 3, 4, 5, 6, 7, 8, 9, 10, 11], 12)] (by kernel_rfl) (by kernel_rfl) (by kernel_rfl) ?_
            simp only [List.map_cons, List.map_nil, pick, List.getD_cons_zero, List.getD_cons_succ]
            have HQ3 : Hid (LOwn wr.drew w0.heap.size (.slice A2 k c2) (own.take k) ∧ Below w0.heap.size w0 wr.drew ∧ countsFrom OW (OW.length - k) k = countsFrom OW OW.length 0) := Lib.hid ⟨HQ.out.1.later (Below.refl _ wr).drew, HQ.out.2.1.drew, HQ.out.2.2⟩
            have HR3 : Hid (LRow wr.drew A2 k c2 (own.take k)) := Lib.hid (HR2.out.later (Below.refl _ wr).drew)
            clear HQ HR2
            generalize wr.drew = z0 at *
            obtain ⟨b2, off2, hA2, hf⟩ := LRow.futs (F := Later) Later.refl (fun _ h => h) HR3.out (k - 1) (by omega)
            subst hA2
            obtain ⟨b3, off3, hA3, hg⟩ := LRow.futs (F := Later) Later.refl (fun _ h => h) (HR.out.later HQ3.out.2.1) k hlt
            injection hA3 with hA3
            injection hA3 with ha ho
            subst ha ho
            rw [HGET.out] at hf
            have HS2 := Lib.hid HSQ.out
            generalize own.getD (k - 1) noPl = p at hf HSQ HFO HGET HS2
            generalize hq : own.getD k noPl = q at hg HSQ HFO HS2
            have HQE := Lib.hid hq; clear hq
            have hf2 := cells_futs hf; have hg2 := cells_futs hg
            clear hf hg
            refine wpGrow_cons ?_
            repeat (first | (refine wpQuiet_load rfl 48 (.tmp 50) rfl ⟨b2, off2 + (k - 1) * 13, none⟩ rfl (.agg p.arr) (fun w' h => by obtain ⟨x, rfl⟩ := h; exact hf2 x) ?_; simp only [Act.put, List.setIfInBounds_toArray, List.set_cons_succ, List.set_cons_zero]) | (refine wpQuiet_load rfl 48 (.tmp 54) rfl ⟨b, off + k * 13, none⟩ rfl (.agg q.arr) (fun w' h => by obtain ⟨x, rfl⟩ := h; exact hg2 x) ?_; simp only [Act.put, List.setIfInBounds_toArray, List.set_cons_succ, List.set_cons_zero]) | go_big_quiet_step (fail))
            refine wpQuiet_nil ?_
            clear hf2 hg2
            go_wp2_with fail
            refine (HFO.out z0 HQ3.out.2.1).mono ?_
            rintro e w2 ⟨rfl, hb⟩
            have HF : Hid (Later z0 w2) := Lib.hid hb
            have HQ4 : Hid (LOwn w2 w0.heap.size (.slice (some ⟨b2, off2, none⟩) k c2) (own.take k) ∧ Below w0.heap.size w0 w2 ∧ countsFrom OW (OW.length - k) k = countsFrom OW OW.length 0) := Lib.hid ⟨HQ3.out.1.later hb, HQ3.out.2.1.trans (hb.mono HQ3.out.2.1.size), HQ3.out.2.2⟩
            have HR4 : Hid (LRow w2 (some ⟨b2, off2, none⟩) k c2 (own.take k)) := Lib.hid (HR3.out.later hb)
            clear hb HQ3 HR3
            by_cases g5 : followsR p.s q.s = true
            · rw [g5]
              have HS3 : Hid (stepR OW k = !decide (p.s.kind = 3)) := Lib.hid (by rw [HS2.out, g5, Bool.true_and])
              clear g5 HFO HSQ HS2
              go_wp2_with fail
              refine pieceEnd_go HF.out ?_
              clear HF
              obtain ⟨b4', off4, hA4, hf⟩ := LRow.futs (F := Later) Later.refl (fun _ h => h) HR4.out (k - 1) (by omega)
              injection hA4 with hA4
              injection hA4 with ha ho
              subst ha ho
              rw [HGET.out] at hf
              have hf4 : ∀ x, (fut Later w2 x).cell? ⟨b2, off2 + (k - 1) * 13 + 4, none⟩ = some (.int .i64 p.s.kind) := fun x => hf x 4 (by rw [Pl.size]; decide)
              clear hf
              by_cases g6 : p.s.kind = 3
              · have b6 : (p.s.kind == 3) = true := by simp [g6]
                have HSTOP : Hid (countsFrom OW (OW.length - k) k = k) := Lib.hid (countsFrom_stop OW OW.length k (by rw [HOL.out]; exact hlt) (by rw [HS3.out, decide_eq_true g6]; rfl))
                clear g6
                skip
                repeat (go_big_quiet_step (fail))
                refine wpQuiet_nil ?_
                clear hf4 HS3
                have HQ2 := HQ4
                clear HQ4
                go_wp2_with fail
                go_ret
                have HEND : Hid ((own.take k).map (·.s) = CR) := Lib.hid (by rw [HCR.out, ← HQ2.out.2.2, HSTOP.out, ← HM.out, List.map_take])
                first | exact ⟨_, rfl, own.take k, HEND.out, HQ2.out.1.mono HB.out.size, HHI.out.take _, HB.out.trans (HQ2.out.2.1.mono HB.out.size)⟩ | exact ⟨_, own.take k, rfl, HEND.out, HQ2.out.1.mono HB.out.size, HHI.out.take _, HB.out.trans (HQ2.out.2.1.mono HB.out.size)⟩
              · have b6 : (p.s.kind == 3) = false := by simpa using g6
                have HSTEP : Hid (countsFrom OW (OW.length - k) k = countsFrom OW (OW.length - (k + 1)) (k + 1)) := Lib.hid (countsFrom_step OW OW.length k (by rw [HOL.out]; exact hlt) (by rw [HS3.out, decide_eq_false g6]; rfl))
                clear g6
                refine wpGrow_nil ?_
                repeat (go_big_quiet_step (fail))
                refine wpQuiet_nil ?_
                clear hf4 HS3 e0 e1 e2 b4 b5 b6
                obtain ⟨b5, off5, hA5, hc5⟩ := LRow.cells (HR.out.later HQ4.out.2.1) k hlt
                injection hA5 with hA5
                injection hA5 with ha ho
                subst ha ho
                have HPK : Hid (PlOk w2 (own.getD k noPl)) := Lib.hid ((HR.out.later HQ4.out.2.1).at k hlt)
                have HCL : Hid (∀ v' : Value, (∀ i, v'.ownBlock = some i → w0.heap.size ≤ i) → Clear v' (own.getD k noPl)) := Lib.hid fun v' h => (HR.out.at k hlt).clear h
                have HTK := Lib.hid (take_snocP own k hlt)
                have HC5 := Lib.hid hc5
                clear hc5
                generalize hpk : own.getD k noPl = r at HPK HCL HTK HC5
                clear hpk
                have hvs : r.arr.size = 13 := rfl
                go_wp2_with (first | (refine wpList_load_cells rfl 48 (.tmp 71) rfl b (off + k * 13) rfl r.arr _ Tryz.underlying48 rfl r.info HC5.out ?_) | (at_builtin; (first | rw [fold13] | (rw [← hvs, fold13])); go_must (refine wpList_app_newK w2 rfl (.tmp 68) (.tmp 73) 27 48 rfl w0.heap.size Tryz.underlying27 stm_info rfl _ (own.take k).length (plsC (own.take k)) HQ4.out.1.own rfl 1 r.arr rfl r.ones rfl rfl (by unfold maxLen; rw [HLK.out]; omega) (by rw [HLK.out]; omega) HQ4.out.2.1.size ?_); intro x3 z3 ho hb hk1 hk2; rw [show r.arr.toList = plsC [r] from rfl] at ho; have HO3 := Lib.hid (HQ4.out.1.app (m := [r]) (fun s hs => by rw [List.mem_singleton.1 hs]; exact ⟨HPK.out, HCL.out _ (own_ge HQ4.out.1.own)⟩) ho hk1 hk2); have HB3 := Lib.hid (HQ4.out.2.1.trans hb); clear ho hb hk1 hk2))
                exact ⟨⟨k + 1, hlt, by go_num, Lib.hid (fun h => absurd h (Nat.succ_ne_zero k)), Lib.hid ⟨by rw [HTK.out]; exact HO3.out, HB3.out, by rw [← HSTEP.out]; exact HQ4.out.2.2⟩⟩, by simp [intOf]; omega⟩
            · rw [show followsR p.s q.s = false by simpa using g5]
              have HSTOP : Hid (countsFrom OW (OW.length - k) k = k) := Lib.hid (countsFrom_stop OW OW.length k (by rw [HOL.out]; exact hlt) (by rw [HS2.out, show followsR p.s q.s = false by simpa using g5]; rfl))
              clear g5 HFO HSQ HS2
              go_wp2_with fail
              refine pieceEnd_go HF.out ?_
              clear HF
              skip
              repeat (go_big_quiet_step (fail))
              refine wpQuiet_nil ?_
              have HQ2 := HQ4
              clear HQ4
              go_wp2_with fail
              go_ret
              have HEND : Hid ((own.take k).map (·.s) = CR) := Lib.hid (by rw [HCR.out, ← HQ2.out.2.2, HSTOP.out, ← HM.out, List.map_take])
              first | exact ⟨_, rfl, own.take k, HEND.out, HQ2.out.1.mono HB.out.size, HHI.out.take _, HB.out.trans (HQ2.out.2.1.mono HB.out.size)⟩ | exact ⟨_, own.take k, rfl, HEND.out, HQ2.out.1.mono HB.out.size, HHI.out.take _, HB.out.trans (HQ2.out.2.1.mono HB.out.size)⟩
      · have b1 : ((own.getD k noPl).s.number != (k : Int)) = true := by rw [bne_iff_ne]; exact g1
        have HSTOP : Hid (countsFrom OW (OW.length - k) k = k) := Lib.hid (countsFrom_stop OW OW.length k (by rw [HOL.out]; exact hlt) (by
          unfold stepR
          rw [HST.out k hlt, decide_eq_false g1]; rfl))
        have HQ2 := HQ
        clear HQ g1
        generalize hx1 : (own.getD k noPl).s.number = x1 at hc1 b1
        clear hx1
        go_wp2_with fail
        go_ret
        have HEND : Hid ((own.take k).map (·.s) = CR) := Lib.hid (by rw [HCR.out, ← HQ2.out.2.2, HSTOP.out, ← HM.out, List.map_take])
        first | exact ⟨_, rfl, own.take k, HEND.out, HQ2.out.1.mono HB.out.size, HHI.out.take _, HB.out.trans (HQ2.out.2.1.mono HB.out.size)⟩ | exact ⟨_, own.take k, rfl, HEND.out, HQ2.out.1.mono HB.out.size, HHI.out.take _, HB.out.trans (HQ2.out.2.1.mono HB.out.size)⟩
    · have hlt2 : ¬ (k : Int) < (own.length : Int) := by omega
      have HE : Hid (k = own.length) := by unfold Hid; omega
      have HSTOP : Hid (countsFrom OW (OW.length - k) k = k) := Lib.hid (by rw [HOL.out, HE.out, Nat.sub_self]; rfl)
      have HQ2 := HQ
      clear HQ
      go_wp2_with fail
      go_ret
      have HEND : Hid ((own.take k).map (·.s) = CR) := Lib.hid (by rw [HCR.out, ← HQ2.out.2.2, HSTOP.out, ← HM.out, List.map_take])
      first | exact ⟨_, rfl, own.take k, HEND.out, HQ2.out.1.mono HB.out.size, HHI.out.take _, HB.out.trans (HQ2.out.2.1.mono HB.out.size)⟩ | exact ⟨_, own.take k, rfl, HEND.out, HQ2.out.1.mono HB.out.size, HHI.out.take _, HB.out.trans (HQ2.out.2.1.mono HB.out.size)⟩
theorem refCounted_any (au : Int) (A : Option Addr) (n c : Nat) (l : List Pl) (w : World) (hl : LRow w A n c l) (hn : n ≤ 100000) (hs : ∀ p ∈ l, Small p.s) :
    Calls Tryz.prog 22 #[.int .i64 au, .slice A n c] w fun e w' => ∃ v l', e = .returned v ∧ l'.map (·.s) = countedR au (l.map (·.s)) ∧ LOwn w' w.heap.size v l' ∧ Below w.heap.size w w' :=
  (refCounted_hi au A n c l w hl hn hs).mono fun _ _ ⟨v, l', h1, h2, h3, _, h5⟩ => ⟨v, l', h1, h2, h3, h5⟩
end Go.Proofs.YtnmpbjgccbnomaaGreat
/- Walks of the reference's Until, Window, and the store's Of, over any list. -/
namespace Go.Proofs.YtnmpbjgccbnomaaGreat
open Go.RowKit
def untilS (tm : Int) (l : List Stm) : List Stm := l.filter (fun s => decide (s.time ≤ tm))
def ofS (au : Int) (l : List Stm) : List Stm := l.filter (fun s => decide (s.author = au))
set_option maxRecDepth 100000 in
set_option maxHeartbeats 4000000 in
theorem refOf_any (A : Option Addr) (n c : Nat) (l : List Pl) (au : Int) (w : World) (hl : LRow w A n c l) (hn : n ≤ 100000) (hs : ∀ p ∈ l, Few p.s) :
    Calls Tryz.prog 23 #[.agg #[.slice A n c], .int .i64 au] w fun e w' => ∃ v l', e = .returned v ∧ l'.map (·.s) = ofS au (l.map (·.s)) ∧ LOwn w' w.heap.size v l' ∧ Below w.heap.size w w' := by
  have HL := Lib.hid hl; have HLN := Lib.hid hl.len; have HS := Lib.hid hs
  clear hl hs
  go_enter Tryz.func23, Tryz.ntmps23
  go_wp2_with fail
  have HNW := Lib.hid (one_new w (.cells #[.slice A n c] 30))
  have HG : Hid ((w.alloc (.cells #[.slice A n c] 30)).heap[w.heap.size]? = some (.cells #[.slice A n c] 30 (0, 0))) := Lib.hid (heap_alloc_new _ _)
  generalize w.alloc (.cells #[.slice A n c] 30) = y0 at *
  have HGL : Hid (w.heap.size < y0.heap.size) := Lib.hid (Array.getElem?_eq_some_iff.1 HG.out).1
  replace HL := Lib.hid (HL.out.later HNW.out)
  go_loopw [5, 6] (fun v i wr => ∃ (j : Nat) (l' : List Pl), j ≤ n ∧ i = .int .i64 j ∧ Hid (LOwn wr y0.heap.size v l' ∧ l'.map (·.s) = ((l.take j).map (·.s)).filter (fun s => decide (s.author = au)) ∧ Below y0.heap.size y0 wr)) (fun _ i _ => n - (intOf i).toNat)
  case atStart => exact ⟨0, [], Nat.zero_le _, rfl, Lib.hid ⟨LOwn.nil _ _, rfl, Below.refl _ _⟩⟩
  case round =>
    obtain ⟨j, l', hj, rfl, HQ⟩ := hrel
    have hX0 : wr.cell? ⟨w.heap.size, 0, none⟩ = some (.slice A n c) := cell_of_row _ _ 0 _ _ _ ((HQ.out.2.2.block _ HGL.out).trans HG.out)
    by_cases hlt : j < n
    · have HLJ := Lib.hid (HL.out.later HQ.out.2.2)
      obtain ⟨b, off, hA, hc⟩ := HLJ.out.cells j hlt
      subst hA
      have HOK := Lib.hid (HLJ.out.at j hlt); have HSM := Lib.hid (HS.out _ (HL.out.get j hlt))
      have HT : Hid ((l.take (j + 1)).map (·.s) = (l.take j).map (·.s) ++ [(l.getD j noPl).s]) := Lib.hid (by rw [take_snocP l j (by rw [HLN.out]; exact hlt), List.map_append]; rfl)
      have HC := Lib.hid hc
      have hck : wr.cell? ⟨b, off + j * 13, none⟩ = some (.int .i64 (l.getD j noPl).s.author) := hc 0 (by rw [Pl.size]; decide)
      clear hc HLJ
      generalize l.getD j noPl = p at *
      have hlt2 : (j : Int) < (n : Int) := by omega
      have HLE : Hid (l'.length ≤ n) := Lib.hid (by have h := congrArg List.length HQ.out.2.1; have h2 := List.length_filter_le (fun s : Stm => decide (s.author = au)) ((l.take j).map (·.s)); simp only [List.length_map, List.length_take] at h h2; omega)
      by_cases g0 : p.s.author = au
      · have b0 : (p.s.author == au) = true := by rw [g0]; simp
        have b1 : decide (p.s.author = au) = true := decide_eq_true g0
        have HF : Hid ([p.s].filter (fun s => decide (s.author = au)) = [p.s]) := Lib.hid (by rw [List.filter_cons_of_pos (by exact b1), List.filter_nil])
        skip
        go_wp2_with (refine wpList_load_cells rfl 48 (.tmp 26) rfl b (off + j * 13) rfl p.arr _ Tryz.underlying48 rfl p.info HC.out ?_)
        refine (copyP_few p wr HOK.out HSM.out).mono ?_
        rintro e w2 ⟨q, rfl, hqs, hqo, hna, hnb, hb⟩
        have HQS := Lib.hid hqs; have HQO := Lib.hid hqo
        have HCL := Lib.hid (clear_new (q := q) hna hnb (own_lt HQ.out.1.own))
        have HO2 := Lib.hid (HQ.out.1.later hb); have HB2 := Lib.hid (HQ.out.2.2.trans (hb.mono HQ.out.2.2.size)); have HM2 := Lib.hid HQ.out.2.1
        clear hqs hqo hna hnb hb HQ HC HOK HSM
        have hle := HLE.out
        have hvs : q.arr.size = 13 := rfl
        go_wp2_with (at_builtin; (first | rw [fold13] | (rw [← hvs, fold13])); go_must (refine wpList_app_newK w2 rfl (.tmp 22) (.tmp 29) 27 48 rfl y0.heap.size Tryz.underlying27 stm_info rfl _ l'.length (plsC l') HO2.out.own rfl 1 q.arr rfl q.ones rfl rfl (by unfold maxLen; omega) (by omega) HB2.out.size ?_); intro x3 z3 ho hb hk1 hk2; rw [show q.arr.toList = plsC [q] from rfl] at ho; have HO3 := Lib.hid (HO2.out.app (m := [q]) (fun r hr => by rw [List.mem_singleton.1 hr]; exact ⟨HQO.out, HCL.out⟩) ho hk1 hk2); have HB3 := Lib.hid (HB2.out.trans hb); clear ho hb hk1 hk2)
        refine ⟨⟨j + 1, l' ++ [q], hlt, by go_num, Lib.hid ⟨HO3.out, ?_, HB3.out⟩⟩, by simp [intOf]; omega⟩
        rw [List.map_append, HM2.out, HT.out, List.filter_append, HF.out, List.map_cons, List.map_nil, HQS.out]
      · skip
        have b0 : (p.s.author == au) = false := by rw [beq_eq_false_iff_ne]; exact g0
        have b1 : decide (p.s.author = au) = false := decide_eq_false g0
        have HF : Hid ([p.s].filter (fun s => decide (s.author = au)) = []) := Lib.hid (by rw [List.filter_cons_of_neg (by exact (show ¬ decide (p.s.author = au) = true by rw [b1]; decide)), List.filter_nil])
        skip
        go_wp2_with fail
        refine ⟨⟨j + 1, l', hlt, by go_num, Lib.hid ⟨HQ.out.1, ?_, HQ.out.2.2⟩⟩, by simp [intOf]; omega⟩
        rw [HQ.out.2.1, HT.out, List.filter_append, HF.out, List.append_nil]
    · have hlt2 : ¬ (j : Int) < (n : Int) := by omega
      have HE : Hid (j = n) := by unfold Hid; omega
      go_wp2_with fail
      go_ret
      exact ⟨_, rfl, l', by rw [HQ.out.2.1, HE.out, List.take_of_length_le (by rw [HLN.out]; exact Nat.le_refl _)]; rfl, HQ.out.1.mono (Nat.le_of_lt HGL.out), HNW.out.trans (HQ.out.2.2.mono HNW.out.size)⟩
end Go.Proofs.YtnmpbjgccbnomaaGreat
/- The walk of the reference's Counted over a store. -/
namespace Go.Proofs.YtnmpbjgccbnomaaGreat
open Go.RowKit
/-- What counts of the first authors. -/
def countedUp (l : List Stm) (j : Nat) : List Stm := (List.range j).flatMap fun (k : Nat) => countedR (k : Int) (ofS (k : Int) l)
def countedAll (l : List Stm) : List Stm := countedUp l 64
theorem countedUp_succ (l : List Stm) (j : Nat) : countedUp l (j + 1) = countedUp l j ++ countedR (j : Int) (ofS (j : Int) l) := by
  unfold countedUp
  rw [List.range_succ, List.flatMap_append]
  simp
theorem ofS_len (au : Int) (l : List Stm) : (ofS au l).length ≤ l.length := List.length_filter_le _ _
theorem ofS_mem {au : Int} {l : List Stm} {s : Stm} (h : s ∈ ofS au l) : s ∈ l := (List.mem_filter.1 h).1
theorem countedR_len (au : Int) (l : List Stm) : (countedR au l).length ≤ l.length := by
  unfold countedR
  rw [List.length_take]
  exact Nat.le_trans (Nat.min_le_right _ _) (ownL_len au l)
theorem countedUp_len (l : List Stm) : ∀ j, (countedUp l j).length ≤ j * l.length
  | 0 => Nat.zero_le _
  | j + 1 => by
    rw [countedUp_succ, List.length_append, Nat.succ_mul]
    have h1 := countedUp_len l j
    have h2 := countedR_len (j : Int) (ofS (j : Int) l)
    have h3 := ofS_len (j : Int) l
    omega
end Go.Proofs.YtnmpbjgccbnomaaGreat
/- The walk of the reference's Order over any list. -/
namespace Go.Proofs.YtnmpbjgccbnomaaGreat
open Go.RowKit
end Go.Proofs.YtnmpbjgccbnomaaGreat
/- Plain facts on lists of statements by time: what until, windows, order and the latest time come to; what counts is linked. -/
namespace Go.Proofs.YtnmpbjgccbnomaaGreat
open Go.RowKit
/-- Each statement but those with the number 0 stands behind the one before it. -/
def Linked : Option Stm → List Stm → Prop
  | _, [] => True
  | o, s :: l => (0 < s.number → ∃ p, o = some p ∧ p.author = s.author ∧ p.number = s.number - 1 ∧ p.time ≤ s.time) ∧ Linked (some s) l
theorem Linked.any : ∀ {l : List Stm} {o : Option Stm}, Linked none l → Linked o l
  | [], _, _ => trivial
  | _ :: _, _, h => ⟨fun h0 => (by obtain ⟨p, hp, _⟩ := h.1 h0; cases hp), h.2⟩
theorem Linked.app : ∀ {l m : List Stm} {o : Option Stm}, Linked o l → Linked none m → Linked o (l ++ m)
  | [], _, _, _, h => h.any
  | _ :: _, _, _, h, k => ⟨h.1, h.2.app k⟩
theorem Linked.until (tm : Int) : ∀ {l : List Stm} {o o' : Option Stm}, Linked o l → (∀ p, o = some p → p.time ≤ tm → o' = some p) → Linked o' (untilS tm l)
  | [], _, _, _, _ => trivial
  | s :: l, o, o', h, k => by
    by_cases hs : s.time ≤ tm
    · rw [show untilS tm (s :: l) = s :: untilS tm l from List.filter_cons_of_pos (by exact decide_eq_true hs)]
      refine ⟨fun h0 => ?_, h.2.until tm fun p hp _ => hp⟩
      obtain ⟨p, hp, h1, h2, h3⟩ := h.1 h0
      exact ⟨p, k p hp (by omega), h1, h2, h3⟩
    · rw [show untilS tm (s :: l) = untilS tm l from List.filter_cons_of_neg (by rw [decide_eq_false hs]; decide)]
      exact h.2.until tm fun p hp hpt => by injection hp with hp; rw [← hp] at hpt; exact absurd hpt hs
theorem Linked.at : ∀ {l : List Stm} {o : Option Stm}, Linked o l → ∀ i, i < l.length → 0 < (l.getD i noStm).number →
    (i = 0 ∧ ∃ p, o = some p ∧ p.author = (l.getD i noStm).author ∧ p.number = (l.getD i noStm).number - 1) ∨ (0 < i ∧ (l.getD (i - 1) noStm).author = (l.getD i noStm).author ∧ (l.getD (i - 1) noStm).number = (l.getD i noStm).number - 1)
  | [], _, _, i, hi, _ => absurd hi (Nat.not_lt_zero _)
  | s :: l, o, h, i, hi, h0 => by
    cases i with
    | zero =>
      obtain ⟨p, hp, h1, h2, _⟩ := h.1 h0
      exact .inl ⟨rfl, p, hp, h1, h2⟩
    | succ i =>
      have h3 := Linked.at h.2 i (Nat.lt_of_succ_lt_succ hi) h0
      rcases h3 with ⟨rfl, p, hp, h1, h2⟩ | ⟨hi0, h1, h2⟩
      · injection hp with hp
        subst hp
        exact .inr ⟨Nat.succ_pos _, h1, h2⟩
      · obtain ⟨k, rfl⟩ : ∃ k, i = k + 1 := ⟨i - 1, by omega⟩
        exact .inr ⟨Nat.succ_pos _, h1, h2⟩
theorem linked_of : ∀ (l : List Stm) (o : Option Stm), (∀ i, i < l.length → 0 < (l.getD i noStm).number →
    (i = 0 ∧ ∃ p, o = some p ∧ p.author = (l.getD i noStm).author ∧ p.number = (l.getD i noStm).number - 1 ∧ p.time ≤ (l.getD i noStm).time) ∨ (0 < i ∧ (l.getD (i - 1) noStm).author = (l.getD i noStm).author ∧ (l.getD (i - 1) noStm).number = (l.getD i noStm).number - 1 ∧ (l.getD (i - 1) noStm).time ≤ (l.getD i noStm).time)) → Linked o l
  | [], _, _ => trivial
  | s :: l, o, h => by
    refine ⟨fun h0 => ?_, linked_of l (some s) fun i hi h0 => ?_⟩
    · rcases h 0 (Nat.succ_pos _) h0 with ⟨_, h1⟩ | ⟨h1, _⟩
      · exact h1
      · exact absurd h1 (Nat.lt_irrefl _)
    · rcases h (i + 1) (Nat.succ_lt_succ hi) h0 with ⟨h1, _⟩ | ⟨_, h1, h2, h3⟩
      · exact absurd h1 (Nat.succ_ne_zero _)
      · rw [Nat.add_sub_cancel] at h1 h2 h3
        cases i with
        | zero => exact .inl ⟨rfl, s, rfl, h1, h2, h3⟩
        | succ i => exact .inr ⟨Nat.succ_pos _, h1, h2, h3⟩
theorem getD_take7 (l : List Stm) {n i : Nat} (h : i < n) : (l.take n).getD i noStm = l.getD i noStm := by
  rw [List.getD_eq_getElem?_getD, List.getElem?_take_of_lt h, ← List.getD_eq_getElem?_getD]
theorem counted_linked (au : Int) (l : List Stm) : Linked none (countedR au l) := by
  refine linked_of _ _ fun i hi h0 => .inr ?_
  unfold countedR at hi h0 ⊢
  have hi2 : i < countsFrom (ownL au l) (ownL au l).length 0 := by rw [List.length_take] at hi; omega
  rw [getD_take7 _ hi2] at h0 ⊢
  have h1 := countsFrom_all (ownL au l) (ownL au l).length 0 i (Nat.zero_le _) hi2
  unfold stepR at h1
  rw [Bool.and_eq_true, Bool.and_eq_true, Bool.or_eq_true, decide_eq_true_eq, decide_eq_true_eq, Bool.and_eq_true] at h1
  obtain ⟨h2, _, h3⟩ := h1
  have hi0 : 0 < i := by omega
  rcases h3 with h3 | ⟨h3, _⟩
  · omega
  · rw [getD_take7 _ (by omega : i - 1 < _)]
    unfold followsR at h3
    simp only [Bool.and_eq_true, decide_eq_true_eq] at h3
    exact ⟨hi0, h3.1.symm, by omega, h3.2.2.2⟩
theorem countedUp_linked (l : List Stm) : ∀ j, Linked none (countedUp l j)
  | 0 => trivial
  | j + 1 => by rw [countedUp_succ]; exact (countedUp_linked l j).app (counted_linked _ _)
theorem countedAll_linked (l : List Stm) : Linked none (countedAll l) := countedUp_linked l 64
theorem check_bounds {s : Stm} (h : checkV s = 0) : 0 ≤ s.time ∧ s.time ≤ 2147483648 ∧ 0 ≤ s.number ∧ s.number ≤ 199 := by
  unfold checkV at h
  split at h
  · exact absurd h (by decide)
  · split at h
    · exact absurd h (by decide)
    · split at h
      · exact absurd h (by decide)
      · rename_i ht
        split at h
        · exact absurd h (by decide)
        · rename_i hr
          have ht2 : btw s.time 0 2147483648 = true := by simpa using ht
          have hr2 : rangeB s = true := by simpa using hr
          unfold rangeB at hr2
          simp only [Bool.and_eq_true] at hr2
          have hr3 := hr2.1.1.1.1.1
          unfold btw at ht2 hr3
          rw [Bool.and_eq_true, decide_eq_true_eq, decide_eq_true_eq] at ht2 hr3
          exact ⟨ht2.1, ht2.2, hr3.1, hr3.2⟩
theorem counted_check {l : List Stm} {s : Stm} (h : s ∈ countedAll l) : checkV s = 0 := by
  obtain ⟨k, _, hk⟩ := List.mem_flatMap.1 h
  exact (ownL_mem (List.mem_of_mem_take hk)).2.2.1
def belowS (c : Int) (l : List Stm) : List Stm := l.filter fun s => decide (s.time < c)
end Go.Proofs.YtnmpbjgccbnomaaGreat
/- Rows of things of k cells each. Plain facts. -/
namespace Go.Proofs.YtnmpbjgccbnomaaGreat
open Go.RowKit
section
variable {α : Type}
/-- Things one behind the other, each of k cells. -/
def rowC (cs : α → List Value) (l : List α) : List Value := l.flatMap cs
variable {cs : α → List Value} {k : Nat}
theorem rowC_len (hk : ∀ a, (cs a).length = k) (l : List α) : (rowC cs l).length = l.length * k := by
  induction l with
  | nil => simp [rowC]
  | cons s l ih => simp only [rowC, List.flatMap_cons, List.length_append, List.length_cons] at *; rw [ih, hk]; rw [Nat.succ_mul]; omega
theorem rowC_app (l m : List α) : rowC cs (l ++ m) = rowC cs l ++ rowC cs m := by simp [rowC]
theorem rowC_single (a : α) : rowC cs [a] = cs a := by simp [rowC]
theorem rowC_drop (hk : ∀ a, (cs a).length = k) (l : List α) : ∀ i, (rowC cs l).drop (i * k) = rowC cs (l.drop i) := by
  induction l with
  | nil => intro i; simp [rowC]
  | cons s l ih =>
    intro i
    cases i with
    | zero => rw [Nat.zero_mul]; rfl
    | succ i =>
      rw [List.drop_succ_cons, ← ih i]
      simp only [rowC, List.flatMap_cons]
      rw [show (i + 1) * k = (cs s).length + i * k by rw [hk, Nat.succ_mul]; omega, ← List.drop_drop, List.drop_left]
theorem rowC_take (hk : ∀ a, (cs a).length = k) (l : List α) (i : Nat) (h : i ≤ l.length) : (rowC cs l).take (i * k) = rowC cs (l.take i) := by
  have hl : (rowC cs (l.take i)).length = i * k := by rw [rowC_len hk, List.length_take]; congr 1; omega
  conv => lhs; rw [← List.take_append_drop i l, rowC_app]
  rw [List.take_append_of_le_length (by omega), List.take_of_length_le (by omega)]
theorem rowC_ones (ho : ∀ a, ∀ u ∈ cs a, u.oneCell' = true) (l : List α) : ∀ u ∈ rowC cs l, u.oneCell' = true := by
  intro u hu
  simp only [rowC, List.mem_flatMap] at hu
  obtain ⟨s, _, hs⟩ := hu
  exact ho s u hs
/-- A slice that reads as such a row. -/
def GRow (cs : α → List Value) (k : Nat) (w : World) (A : Option Addr) (n c : Nat) (l : List α) : Prop := Row w A n c k (rowC cs l)
theorem GRow.later {w w' : World} {A : Option Addr} {n c : Nat} {l : List α} (h : GRow cs k w A n c l) (hb : Later w w') : GRow cs k w' A n c l := Row.later h hb
theorem GRow.len (hk : ∀ a, (cs a).length = k) (h0 : 0 < k) {w : World} {A : Option Addr} {n c : Nat} {l : List α} (h : GRow cs k w A n c l) : l.length = n := by
  have h1 := Row.len h
  rw [rowC_len hk] at h1
  exact Nat.eq_of_mul_eq_mul_right h0 h1
theorem GRow.cells (hk : ∀ a, (cs a).length = k) (h0 : 0 < k) {w : World} {A : Option Addr} {n c : Nat} {l : List α} (h : GRow cs k w A n c l) (d : α) (i : Nat) (hi : i < n) :
    ∃ b off, A = some ⟨b, off, none⟩ ∧ ∀ j, j < k → w.cell? ⟨b, off + i * k + j, none⟩ = (cs (l.getD i d))[j]? := by
  obtain ⟨b, off, hA, hc⟩ := Row.form h (by omega)
  refine ⟨b, off, hA, fun j hj => ?_⟩
  have hl := GRow.len hk h0 h
  have hik : i * k + j < n * k := by
    have h1 : (i + 1) * k ≤ n * k := Nat.mul_le_mul_right _ hi
    rw [Nat.succ_mul] at h1
    omega
  have h1 : (rowC cs l)[i * k + j]? = (rowC cs (l.drop i))[j]? := by rw [← rowC_drop hk, List.getElem?_drop]
  have h2 : l.drop i = l.getD i d :: l.drop (i + 1) := by
    rw [List.drop_eq_getElem_cons (by omega)]; simp [show i < l.length by omega]
  rw [Nat.add_assoc, hc _ hik, h1, h2]
  show (cs (l.getD i d) ++ rowC cs (l.drop (i + 1)))[j]? = _
  rw [List.getElem?_append_left (by rw [hk]; exact hj)]
theorem GRow.futs {F : World → World → Prop} (hr : ∀ w, F w w) (hk : ∀ a, (cs a).length = k) (h0 : 0 < k) {W : World} {A : Option Addr} {n c : Nat} {l : List α} (hF : ∀ w', F W w' → Below W.heap.size W w') (h : GRow cs k W A n c l) (d : α) (i : Nat) (hi : i < n) :
    ∃ b off, A = some ⟨b, off, none⟩ ∧ ∀ x j, j < k → (fut F W x).cell? ⟨b, off + i * k + j, none⟩ = (cs (l.getD i d))[j]? := by
  obtain ⟨b, off, hA, _⟩ := h.cells hk h0 d i hi
  refine ⟨b, off, hA, fun x j hj => ?_⟩
  obtain ⟨b2, off2, hA2, hc2⟩ := (h.later (hF _ (fut_ok hr W x))).cells hk h0 d i hi
  rw [hA] at hA2
  injection hA2 with hA2
  injection hA2 with e1 e2
  subst e1 e2
  exact hc2 j hj
theorem GRow.take (hk : ∀ a, (cs a).length = k) (h0 : 0 < k) {w : World} {A : Option Addr} {n c : Nat} {l : List α} (h : GRow cs k w A n c l) (i : Nat) (hi : i ≤ n) : GRow cs k w A i c (l.take i) := by
  have h1 := Row.take h i hi
  rw [rowC_take hk l i (by rw [GRow.len hk h0 h]; exact hi)] at h1
  exact h1
theorem GRow.drop (hk : ∀ a, (cs a).length = k) {w : World} {A : Option Addr} {n c : Nat} {l : List α} (h : GRow cs k w A n c l) (i : Nat) (hi : i ≤ n) : GRow cs k w (dropA A c i k) (n - i) (c - i) (l.drop i) := by
  have h1 := Row.drop h i hi
  rw [rowC_drop hk] at h1
  exact h1
theorem GRow.nil (w : World) : GRow cs k w none 0 0 [] := Row.nilRow _ _
end
end Go.Proofs.YtnmpbjgccbnomaaGreat
