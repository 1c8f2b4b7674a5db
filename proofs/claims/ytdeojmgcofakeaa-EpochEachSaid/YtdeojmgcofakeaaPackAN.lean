import Derived.Test.YtdeojmgcofakeaaLFollowsP
/- The walk of the reference's Counted. -/
namespace Go.Proofs.Ytdeojmgcofakeaa
open Go.RowKit
/-- Whether statement i of an author's list goes on the chain of those before it. -/
def stepR (own : List Stm) (i : Nat) : Bool := decide ((own.getD i noStm).number = (i : Int)) && (!(decide (i + 1 < own.length) && decide ((own.getD (i + 1) noStm).number = (i : Int))) && (decide (i = 0) || (followsR (own.getD (i - 1) noStm) (own.getD i noStm) && !decide ((own.getD (i - 1) noStm).kind = 3))))
/-- How many count from the i-th on. -/
def countsFrom (own : List Stm) : Nat → Nat → Nat
  | 0, i => i
  | f + 1, i => if stepR own i then countsFrom own f (i + 1) else i
/-- What counts of an author (the reference's way). -/
def countedR (au : Int) (l : List Stm) : List Stm := (ownL au l).take (countsFrom (ownL au l) (ownL au l).length 0)
theorem countsFrom_ge (own : List Stm) : ∀ f i, i ≤ countsFrom own f i
  | 0, i => Nat.le_refl _
  | f + 1, i => by
    unfold countsFrom
    split
    · have := countsFrom_ge own f (i + 1); omega
    · omega
theorem countsFrom_step (own : List Stm) (f i : Nat) (h : i < f) (hs : stepR own i = true) : countsFrom own (f - i) i = countsFrom own (f - (i + 1)) (i + 1) := by
  rw [show f - i = (f - (i + 1)) + 1 by omega, countsFrom, if_pos hs]
theorem countsFrom_stop (own : List Stm) (f i : Nat) (h : i < f) (hs : stepR own i = false) : countsFrom own (f - i) i = i := by
  rw [show f - i = (f - (i + 1)) + 1 by omega, countsFrom, if_neg (by rw [hs]; decide)]
/-- What is known of each statement that was passed. -/
theorem countsFrom_all (own : List Stm) : ∀ f i k, i ≤ k → k < countsFrom own f i → stepR own k = true
  | 0, i, k, h1, h2 => by unfold countsFrom at h2; omega
  | f + 1, i, k, h1, h2 => by
    unfold countsFrom at h2
    split at h2
    · rename_i hs
      by_cases he : k = i
      · rw [he]; exact hs
      · exact countsFrom_all own f (i + 1) k (by omega) h2
    · omega
theorem pieceEnd_go {P : Program} {ops : Array Oper} {F : World → World → Prop} {Q : Act → World → Prop} {last : List Oper} {a : Act} {w w' : World} (hF : F w w') (h : wpQuiet P ops (Futs F w') (fun a' => Q a' w') last a) : pieceEnd (fun a'' w'' => F w w'' ∧ wpGrow P ops F Q last [] a'' w'') .normal a w' := ⟨hF, h⟩
theorem take_snocP (l : List Pl) (k : Nat) (h : k < l.length) : l.take (k + 1) = l.take k ++ [l.getD k noPl] := by
  rw [List.take_add_one, List.getElem?_eq_getElem h, List.getD_eq_getElem?_getD, List.getElem?_eq_getElem h]; rfl

set_option maxRecDepth 100000 in
set_option maxHeartbeats 4000000 in
theorem refCounted_hi (au : Int) (A : Option Addr) (n c : Nat) (l : List Pl) (w : World) (hl : LRow w A n c l) (hn : n ≤ 100000) (hs : ∀ p ∈ l, Small p.s) :
    Calls Try.prog 36 #[.int .i64 au, .slice A n c] w fun e w' => ∃ v l', e = .returned v ∧ l'.map (·.s) = countedR au (l.map (·.s)) ∧ LOwn w' w.heap.size v l' ∧ HiL w.heap.size l' ∧ Below w.heap.size w w' := by
  have HOW := Lib.hid (own_any au A n c l w hl hn hs)
  have HLN : Hid ((ownL au (l.map (·.s))).length ≤ n) := Lib.hid (by have := ownL_len au (l.map (·.s)); rw [List.length_map, hl.len] at this; exact this)
  have HSM : Hid (∀ s ∈ ownL au (l.map (·.s)), Small s) := Lib.hid fun s h => by
    obtain ⟨r, hr, he⟩ := List.mem_map.1 (ownL_mem h).1
    rw [← he]; exact hs r hr
  have HCR : Hid (countedR au (l.map (·.s)) = (ownL au (l.map (·.s))).take (countsFrom (ownL au (l.map (·.s))) (ownL au (l.map (·.s))).length 0)) := Lib.hid rfl
  generalize countedR au (l.map (·.s)) = CR at *
  generalize ownL au (l.map (·.s)) = OW at *
  clear hl hs
  go_enter Try.func36, Try.ntmps36
  go_wp2_with fail
  refine HOW.out.mono ?_
  clear HOW
  rintro e w0 ⟨A1, c1, own, rfl, hm, hr, hhi, hb⟩
  have HHI := Lib.hid hhi; clear hhi
  have HM := Lib.hid hm; have HR := Lib.hid hr; have HB := Lib.hid hb
  have hlo : own.length ≤ n := by have h1 := congrArg List.length hm; have h2 := HLN.out; rw [List.length_map] at h1; omega
  have HS : Hid (∀ p ∈ own, Small p.s) := Lib.hid fun p hp => HSM.out _ (by rw [← hm]; exact List.mem_map_of_mem hp)
  clear hm hr hb HSM HLN
  go_wp2_with fail
  go_loopw [6, 7, 8, 57, 58] (fun v i _ x57 x58 wr => ∃ k : Nat, k ≤ own.length ∧ i = .int .i64 k ∧ Hid (k = 0 → x57 = undef ∧ x58 = undef) ∧ Hid (LOwn wr w0.heap.size v (own.take k) ∧ Below w0.heap.size w0 wr ∧ countsFrom OW (OW.length - k) k = countsFrom OW OW.length 0)) (fun _ i _ _ _ _ => own.length - (intOf i).toNat)
  case atStart => exact ⟨0, Nat.zero_le _, rfl, Lib.hid (fun _ => ⟨rfl, rfl⟩), Lib.hid ⟨LOwn.nil _ _, Below.refl _ _, rfl⟩⟩
  case round =>
    obtain ⟨k, hk, rfl, HUN, HQ⟩ := hrel
    have HLK : Hid ((own.take k).length = k) := Lib.hid (by rw [List.length_take]; omega)
    obtain ⟨A2, c2, hv, hr2⟩ := HQ.out.1.row
    rw [HLK.out] at hv hr2
    subst hv
    have HR2 := Lib.hid hr2; clear hr2
    have HST : Hid (∀ i, i < own.length → OW.getD i noStm = (own.getD i noPl).s) := Lib.hid fun i _ => by rw [← HM.out]; exact getD_s own i
    have HOL : Hid (OW.length = own.length) := Lib.hid (by rw [← HM.out, List.length_map])
    have HNUM : Hid (0 < k → (own.getD (k - 1) noPl).s.number = ((k - 1 : Nat) : Int)) := Lib.hid fun h0 => by
      have h1 : k ≤ countsFrom OW OW.length 0 := by rw [← HQ.out.2.2]; exact countsFrom_ge _ _ _
      have h2 := countsFrom_all OW OW.length 0 (k - 1) (Nat.zero_le _) (by omega)
      unfold stepR at h2
      rw [Bool.and_eq_true] at h2
      rw [← HST.out (k - 1) (by omega)]
      exact of_decide_eq_true h2.1
    by_cases hlt : k < own.length
    · have HRK := Lib.hid (HR.out.later HQ.out.2.1)
      obtain ⟨b, off, hA, hc⟩ := HRK.out.cells k hlt
      subst hA
      have hlt2 : (k : Int) < (own.length : Int) := by omega
      have hc1 : wr.cell? ⟨b, off + k * 13 + 1, none⟩ = some (.int .i64 (own.getD k noPl).s.number) := hc 1 (by rw [Pl.size]; decide)
      clear hc
      by_cases g1 : (own.getD k noPl).s.number = (k : Int)
      · have b1 : ((own.getD k noPl).s.number != (k : Int)) = false := by rw [g1]; simp
        have G1 := Lib.hid g1; clear g1
        generalize hx1 : (own.getD k noPl).s.number = x1 at hc1 b1
        clear hx1
        by_cases g2 : k + 1 < own.length
        · obtain ⟨b2', off2', hA', hc'⟩ := HRK.out.cells (k + 1) g2
          injection hA' with hA'
          injection hA' with ha ho
          subst ha ho
          have hc2 : wr.cell? ⟨b, off + (k + 1) * 13 + 1, none⟩ = some (.int .i64 (own.getD (k + 1) noPl).s.number) := hc' 1 (by rw [Pl.size]; decide)
          have g22 : (k : Int) + 1 < (own.length : Int) := by omega
          have b2 : decide ((k : Int) + 1 < (own.length : Int)) = true := decide_eq_true g22
          have e5 : ((k : Int) + 1).toNat = k + 1 := by omega
          clear hc'
          by_cases g3 : (own.getD (k + 1) noPl).s.number = (k : Int)
          · have b3 : ((own.getD (k + 1) noPl).s.number == (k : Int)) = true := by rw [g3]; simp
            have G3 := Lib.hid g3; clear g3
            generalize hx2 : (own.getD (k + 1) noPl).s.number = x2 at hc2 b3
            clear hx2
            have HSTOP : Hid (countsFrom OW (OW.length - k) k = k) := Lib.hid (countsFrom_stop OW OW.length k (by rw [HOL.out]; exact hlt) (by
              unfold stepR
              rw [HST.out k hlt, HST.out (k + 1) g2, decide_eq_true G3.out, HOL.out, decide_eq_true g2]; simp))
            have HQ2 := HQ
            clear HQ
            go_wp2_with fail
            go_ret
            have HEND : Hid ((own.take k).map (·.s) = CR) := Lib.hid (by rw [HCR.out, ← HQ2.out.2.2, HSTOP.out, ← HM.out, List.map_take])
            first | exact ⟨_, rfl, own.take k, HEND.out, HQ2.out.1.mono HB.out.size, HHI.out.take _, HB.out.trans (HQ2.out.2.1.mono HB.out.size)⟩ | exact ⟨_, own.take k, rfl, HEND.out, HQ2.out.1.mono HB.out.size, HHI.out.take _, HB.out.trans (HQ2.out.2.1.mono HB.out.size)⟩
          · have b3 : ((own.getD (k + 1) noPl).s.number == (k : Int)) = false := by rw [beq_eq_false_iff_ne]; exact g3
            have HMORE : Hid ((!(decide (k + 1 < OW.length) && decide ((OW.getD (k + 1) noStm).number = (k : Int)))) = true) := Lib.hid (by rw [HST.out (k + 1) g2, decide_eq_false g3, Bool.and_false]; rfl)
            clear g3
            generalize hx2 : (own.getD (k + 1) noPl).s.number = x2 at hc2 b3
            clear hx2
            go_upto_region 8 with fail
            clear hc1 hc2 b1 b2 b3 g22 e5
            by_cases g4 : k = 0
            · have HSTEP : Hid (countsFrom OW (OW.length - k) k = countsFrom OW (OW.length - (k + 1)) (k + 1)) := Lib.hid (countsFrom_step OW OW.length k (by rw [HOL.out]; exact hlt) (by
                unfold stepR
                rw [HST.out k hlt, decide_eq_true G1.out, HMORE.out, decide_eq_true g4]; rfl))
              have HK0 := Lib.hid g4
              have b4 : decide ((0 : Int) < (k : Int)) = false := by rw [g4]; rfl
              have b5 : decide (0 < k) = false := by rw [g4]; rfl
              obtain ⟨hu1, hu2⟩ := HUN.out g4
              subst hu1 hu2
              clear g4 HMORE HUN
              go_wp2_with fail
              refine wp_region_grow (by kernel_rfl) Later Later.refl (fun _ _ _ => Later.trans) [13, 14, 15, 16, 17, 18, 19, 20, 21, 22, 23] [([0, 1, 2, 3, 4, 5, 6, 7, 8, 9, 10, 11], 12)] (by kernel_rfl) (by kernel_rfl) (by kernel_rfl) ?_
              simp only [List.map_cons, List.map_nil, pick, List.getD_cons_zero, List.getD_cons_succ]
              have HQ3 : Hid (LOwn wr.drew w0.heap.size (.slice A2 k c2) (own.take k) ∧ Below w0.heap.size w0 wr.drew ∧ countsFrom OW (OW.length - k) k = countsFrom OW OW.length 0) := Lib.hid ⟨HQ.out.1.later (Below.refl _ wr).drew, HQ.out.2.1.drew, HQ.out.2.2⟩
              have HR3 : Hid (LRow wr.drew A2 k c2 (own.take k)) := Lib.hid (HR2.out.later (Below.refl _ wr).drew)
              clear HQ HR2
              generalize wr.drew = z0 at *
              refine wpGrow_cons ?_
              repeat (go_big_quiet_step (fail))
              refine wpQuiet_nil ?_
              go_wp2_with fail
              have HF : Hid (Later z0 z0) := Lib.hid (Later.refl _)
              go_wp2_with fail
              refine pieceEnd_go HF.out ?_
              clear HF
              skip
              repeat (go_big_quiet_step (fail))
              refine wpQuiet_nil ?_
              clear b4 b5
              obtain ⟨b5, off5, hA5, hc5⟩ := LRow.cells (HR.out.later HQ3.out.2.1) k hlt
              injection hA5 with hA5
              injection hA5 with ha ho
              subst ha ho
              have HPK : Hid (PlOk z0 (own.getD k noPl)) := Lib.hid ((HR.out.later HQ3.out.2.1).at k hlt)
              have HCL : Hid (∀ v' : Value, (∀ i, v'.ownBlock = some i → w0.heap.size ≤ i) → Clear v' (own.getD k noPl)) := Lib.hid fun v' h => (HR.out.at k hlt).clear h
              have HTK := Lib.hid (take_snocP own k hlt)
              have HC5 := Lib.hid hc5
              clear hc5
              generalize hpk : own.getD k noPl = r at HPK HCL HTK HC5
              clear hpk
              have hvs : r.arr.size = 13 := rfl
              go_wp2_with (first | (refine wpList_load_cells rfl 30 (.tmp 71) rfl b (off + k * 13) rfl r.arr _ Try.underlying30 rfl r.info HC5.out ?_) | (at_builtin; (first | rw [fold13] | (rw [← hvs, fold13])); go_must (refine wpList_app_newK z0 rfl (.tmp 68) (.tmp 73) 22 30 rfl w0.heap.size Try.underlying22 stm_info rfl _ (own.take k).length (plsC (own.take k)) HQ3.out.1.own rfl 1 r.arr rfl r.ones rfl rfl (by unfold maxLen; rw [HLK.out]; omega) (by rw [HLK.out]; omega) HQ3.out.2.1.size ?_); intro x3 z3 ho hb hk1 hk2; rw [show r.arr.toList = plsC [r] from rfl] at ho; have HO3 := Lib.hid (HQ3.out.1.app (m := [r]) (fun s hs => by rw [List.mem_singleton.1 hs]; exact ⟨HPK.out, HCL.out _ (own_ge HQ3.out.1.own)⟩) ho hk1 hk2); have HB3 := Lib.hid (HQ3.out.2.1.trans hb); clear ho hb hk1 hk2))
              exact ⟨⟨k + 1, hlt, by go_num, Lib.hid (fun h => absurd h (Nat.succ_ne_zero k)), Lib.hid ⟨by rw [HTK.out]; exact HO3.out, HB3.out, by rw [← HSTEP.out]; exact HQ3.out.2.2⟩⟩, by simp [intOf]; omega⟩
            · have e0 : (0 : Int) ≤ (k : Int) - 1 := by omega
              have e1 : (k : Int) - 1 < (k : Int) := by omega
              have e2 : ((k : Int) - 1).toNat = k - 1 := by omega
              have b4 : decide ((0 : Int) < (k : Int)) = true := decide_eq_true (by omega)
              have b5 : decide (0 < k) = true := decide_eq_true (by omega)
              have hk1 : k - 1 < own.length := by omega
              have HSQ : Hid (stepR OW k = (followsR (own.getD (k - 1) noPl).s (own.getD k noPl).s && !decide ((own.getD (k - 1) noPl).s.kind = 3))) := Lib.hid (by
                unfold stepR
                rw [HST.out k hlt, HST.out (k - 1) hk1, decide_eq_true G1.out, HMORE.out, decide_eq_false g4, Bool.true_and, Bool.false_or]; rfl)
              have HP0 : Hid (0 ≤ (own.getD (k - 1) noPl).s.number ∧ (own.getD (k - 1) noPl).s.number ≤ 1000000) := Lib.hid (by
                have h := HNUM.out (by omega : 0 < k)
                omega)
              have HFO : Hid (∀ y, Below w0.heap.size w0 y → Calls Try.prog 47 #[.agg (own.getD (k - 1) noPl).arr, .agg (own.getD k noPl).arr] y (SaysL (.bool (followsR (own.getD (k - 1) noPl).s (own.getD k noPl).s)) y)) := Lib.hid fun y h => followsP_any _ _ y ((HR.out.at (k - 1) hk1).later h) (HS.out _ (HR.out.get (k - 1) hk1)) HP0.out
              clear HMORE HP0 g4
              have HGET : Hid ((own.take k).getD (k - 1) noPl = own.getD (k - 1) noPl) := Lib.hid (by
                simp only [List.getD_eq_getElem?_getD]; rw [List.getElem?_take_of_lt (by omega)])
              go_wp2_with fail
              refine wp_region_grow (by kernel_rfl) Later Later.refl (fun _ _ _ => Later.trans) [13, 14, 15, 16, 17, 18, 19, 20, 21, 22, 23] [([0, 1, 2, 3, 4, 5, 6, 7, 8, 9, 10, 11], 12)] (by kernel_rfl) (by kernel_rfl) (by kernel_rfl) ?_
              simp only [List.map_cons, List.map_nil, pick, List.getD_cons_zero, List.getD_cons_succ]
              have HQ3 : Hid (LOwn wr.drew w0.heap.size (.slice A2 k c2) (own.take k) ∧ Below w0.heap.size w0 wr.drew ∧ countsFrom OW (OW.length - k) k = countsFrom OW OW.length 0) := Lib.hid ⟨HQ.out.1.later (Below.refl _ wr).drew, HQ.out.2.1.drew, HQ.out.2.2⟩
              have HR3 : Hid (LRow wr.drew A2 k c2 (own.take k)) := Lib.hid (HR2.out.later (Below.refl _ wr).drew)
              clear HQ HR2
              generalize wr.drew = z0 at *
              obtain ⟨b2, off2, hA2, hf⟩ := LRow.futs (F := Later) Later.refl (fun _ h => h) HR3.out (k - 1) (by omega)
              subst hA2
              obtain ⟨b3, off3, hA3, hg⟩ := LRow.futs (F := Later) Later.refl (fun _ h => h) (HR.out.later HQ3.out.2.1) k hlt
              injection hA3 with hA3
              injection hA3 with ha ho
              subst ha ho
              rw [HGET.out] at hf
              have HS2 := Lib.hid HSQ.out
              generalize own.getD (k - 1) noPl = p at hf HSQ HFO HGET HS2
              generalize hq : own.getD k noPl = q at hg HSQ HFO HS2
              have HQE := Lib.hid hq; clear hq
              have hf2 := cells_futs hf; have hg2 := cells_futs hg
              clear hf hg
              refine wpGrow_cons ?_
              repeat (first | (refine wpQuiet_load rfl 30 (.tmp 50) rfl ⟨b2, off2 + (k - 1) * 13, none⟩ rfl (.agg p.arr) (fun w' h => by obtain ⟨x, rfl⟩ := h; exact hf2 x) ?_; simp only [Act.put, List.setIfInBounds_toArray, List.set_cons_succ, List.set_cons_zero]) | (refine wpQuiet_load rfl 30 (.tmp 54) rfl ⟨b, off + k * 13, none⟩ rfl (.agg q.arr) (fun w' h => by obtain ⟨x, rfl⟩ := h; exact hg2 x) ?_; simp only [Act.put, List.setIfInBounds_toArray, List.set_cons_succ, List.set_cons_zero]) | go_big_quiet_step (fail))
              refine wpQuiet_nil ?_
              clear hf2 hg2
              go_wp2_with fail
              refine (HFO.out z0 HQ3.out.2.1).mono ?_
              rintro e w2 ⟨rfl, hb⟩
              have HF : Hid (Later z0 w2) := Lib.hid hb
              have HQ4 : Hid (LOwn w2 w0.heap.size (.slice (some ⟨b2, off2, none⟩) k c2) (own.take k) ∧ Below w0.heap.size w0 w2 ∧ countsFrom OW (OW.length - k) k = countsFrom OW OW.length 0) := Lib.hid ⟨HQ3.out.1.later hb, HQ3.out.2.1.trans (hb.mono HQ3.out.2.1.size), HQ3.out.2.2⟩
              have HR4 : Hid (LRow w2 (some ⟨b2, off2, none⟩) k c2 (own.take k)) := Lib.hid (HR3.out.later hb)
              clear hb HQ3 HR3
              by_cases g5 : followsR p.s q.s = true
              · rw [g5]
                have HS3 : Hid (stepR OW k = !decide (p.s.kind = 3)) := Lib.hid (by rw [HS2.out, g5, Bool.true_and])
                clear g5 HFO HSQ HS2
                go_wp2_with fail
                refine pieceEnd_go HF.out ?_
                clear HF
                obtain ⟨b4', off4, hA4, hf⟩ := LRow.futs (F := Later) Later.refl (fun _ h => h) HR4.out (k - 1) (by omega)
                injection hA4 with hA4
                injection hA4 with ha ho
                subst ha ho
                rw [HGET.out] at hf
                have hf4 : ∀ x, (fut Later w2 x).cell? ⟨b2, off2 + (k - 1) * 13 + 4, none⟩ = some (.int .i64 p.s.kind) := fun x => hf x 4 (by rw [Pl.size]; decide)
                clear hf
                by_cases g6 : p.s.kind = 3
                · have b6 : (p.s.kind == 3) = true := by simp [g6]
                  have HSTOP : Hid (countsFrom OW (OW.length - k) k = k) := Lib.hid (countsFrom_stop OW OW.length k (by rw [HOL.out]; exact hlt) (by rw [HS3.out, decide_eq_true g6]; rfl))
                  clear g6
                  skip
                  repeat (go_big_quiet_step (fail))
                  refine wpQuiet_nil ?_
                  clear hf4 HS3
                  have HQ2 := HQ4
                  clear HQ4
                  go_wp2_with fail
                  go_ret
                  have HEND : Hid ((own.take k).map (·.s) = CR) := Lib.hid (by rw [HCR.out, ← HQ2.out.2.2, HSTOP.out, ← HM.out, List.map_take])
                  first | exact ⟨_, rfl, own.take k, HEND.out, HQ2.out.1.mono HB.out.size, HHI.out.take _, HB.out.trans (HQ2.out.2.1.mono HB.out.size)⟩ | exact ⟨_, own.take k, rfl, HEND.out, HQ2.out.1.mono HB.out.size, HHI.out.take _, HB.out.trans (HQ2.out.2.1.mono HB.out.size)⟩
                · have b6 : (p.s.kind == 3) = false := by simpa using g6
                  have HSTEP : Hid (countsFrom OW (OW.length - k) k = countsFrom OW (OW.length - (k + 1)) (k + 1)) := Lib.hid (countsFrom_step OW OW.length k (by rw [HOL.out]; exact hlt) (by rw [HS3.out, decide_eq_false g6]; rfl))
                  clear g6
                  refine wpGrow_nil ?_
                  repeat (go_big_quiet_step (fail))
                  refine wpQuiet_nil ?_
                  clear hf4 HS3 e0 e1 e2 b4 b5 b6
                  obtain ⟨b5, off5, hA5, hc5⟩ := LRow.cells (HR.out.later HQ4.out.2.1) k hlt
                  injection hA5 with hA5
                  injection hA5 with ha ho
                  subst ha ho
                  have HPK : Hid (PlOk w2 (own.getD k noPl)) := Lib.hid ((HR.out.later HQ4.out.2.1).at k hlt)
                  have HCL : Hid (∀ v' : Value, (∀ i, v'.ownBlock = some i → w0.heap.size ≤ i) → Clear v' (own.getD k noPl)) := Lib.hid fun v' h => (HR.out.at k hlt).clear h
                  have HTK := Lib.hid (take_snocP own k hlt)
                  have HC5 := Lib.hid hc5
                  clear hc5
                  generalize hpk : own.getD k noPl = r at HPK HCL HTK HC5
                  clear hpk
                  have hvs : r.arr.size = 13 := rfl
                  go_wp2_with (first | (refine wpList_load_cells rfl 30 (.tmp 71) rfl b (off + k * 13) rfl r.arr _ Try.underlying30 rfl r.info HC5.out ?_) | (at_builtin; (first | rw [fold13] | (rw [← hvs, fold13])); go_must (refine wpList_app_newK w2 rfl (.tmp 68) (.tmp 73) 22 30 rfl w0.heap.size Try.underlying22 stm_info rfl _ (own.take k).length (plsC (own.take k)) HQ4.out.1.own rfl 1 r.arr rfl r.ones rfl rfl (by unfold maxLen; rw [HLK.out]; omega) (by rw [HLK.out]; omega) HQ4.out.2.1.size ?_); intro x3 z3 ho hb hk1 hk2; rw [show r.arr.toList = plsC [r] from rfl] at ho; have HO3 := Lib.hid (HQ4.out.1.app (m := [r]) (fun s hs => by rw [List.mem_singleton.1 hs]; exact ⟨HPK.out, HCL.out _ (own_ge HQ4.out.1.own)⟩) ho hk1 hk2); have HB3 := Lib.hid (HQ4.out.2.1.trans hb); clear ho hb hk1 hk2))
                  exact ⟨⟨k + 1, hlt, by go_num, Lib.hid (fun h => absurd h (Nat.succ_ne_zero k)), Lib.hid ⟨by rw [HTK.out]; exact HO3.out, HB3.out, by rw [← HSTEP.out]; exact HQ4.out.2.2⟩⟩, by simp [intOf]; omega⟩
              · rw [show followsR p.s q.s = false by simpa using g5]
                have HSTOP : Hid (countsFrom OW (OW.length - k) k = k) := Lib.hid (countsFrom_stop OW OW.length k (by rw [HOL.out]; exact hlt) (by rw [HS2.out, show followsR p.s q.s = false by simpa using g5]; rfl))
                clear g5 HFO HSQ HS2
                go_wp2_with fail
                refine pieceEnd_go HF.out ?_
                clear HF
                skip
                repeat (go_big_quiet_step (fail))
                refine wpQuiet_nil ?_
                have HQ2 := HQ4
                clear HQ4
                go_wp2_with fail
                go_ret
                have HEND : Hid ((own.take k).map (·.s) = CR) := Lib.hid (by rw [HCR.out, ← HQ2.out.2.2, HSTOP.out, ← HM.out, List.map_take])
                first | exact ⟨_, rfl, own.take k, HEND.out, HQ2.out.1.mono HB.out.size, HHI.out.take _, HB.out.trans (HQ2.out.2.1.mono HB.out.size)⟩ | exact ⟨_, own.take k, rfl, HEND.out, HQ2.out.1.mono HB.out.size, HHI.out.take _, HB.out.trans (HQ2.out.2.1.mono HB.out.size)⟩
        · have g22 : ¬ (k : Int) + 1 < (own.length : Int) := by omega
          have b2 : decide ((k : Int) + 1 < (own.length : Int)) = false := decide_eq_false g22
          have HMORE : Hid ((!(decide (k + 1 < OW.length) && decide ((OW.getD (k + 1) noStm).number = (k : Int)))) = true) := Lib.hid (by rw [HOL.out, decide_eq_false g2, Bool.false_and]; rfl)
          go_upto_region 8 with fail
          clear hc1 b1 b2 g22
          by_cases g4 : k = 0
          · have HSTEP : Hid (countsFrom OW (OW.length - k) k = countsFrom OW (OW.length - (k + 1)) (k + 1)) := Lib.hid (countsFrom_step OW OW.length k (by rw [HOL.out]; exact hlt) (by
              unfold stepR
              rw [HST.out k hlt, decide_eq_true G1.out, HMORE.out, decide_eq_true g4]; rfl))
            have HK0 := Lib.hid g4
            have b4 : decide ((0 : Int) < (k : Int)) = false := by rw [g4]; rfl
            have b5 : decide (0 < k) = false := by rw [g4]; rfl
            obtain ⟨hu1, hu2⟩ := HUN.out g4
            subst hu1 hu2
            clear g4 HMORE HUN
            go_wp2_with fail
            refine wp_region_grow (by kernel_rfl) Later Later.refl (fun _ _ _ => Later.trans) [13, 14, 15, 16, 17, 18, 19, 20, 21, 22, 23] [([0, 1, 2, 3, 4, 5, 6, 7, 8, 9, 10, 11], 12)] (by kernel_rfl) (by kernel_rfl) (by kernel_rfl) ?_
            simp only [List.map_cons, List.map_nil, pick, List.getD_cons_zero, List.getD_cons_succ]
            have HQ3 : Hid (LOwn wr.drew w0.heap.size (.slice A2 k c2) (own.take k) ∧ Below w0.heap.size w0 wr.drew ∧ countsFrom OW (OW.length - k) k = countsFrom OW OW.length 0) := Lib.hid ⟨HQ.out.1.later (Below.refl _ wr).drew, HQ.out.2.1.drew, HQ.out.2.2⟩
            have HR3 : Hid (LRow wr.drew A2 k c2 (own.take k)) := Lib.hid (HR2.out.later (Below.refl _ wr).drew)
            clear HQ HR2
            generalize wr.drew = z0 at *
            refine wpGrow_cons ?_
            repeat (go_big_quiet_step (fail))
            refine wpQuiet_nil ?_
            go_wp2_with fail
            have HF : Hid (Later z0 z0) := Lib.hid (Later.refl _)
            go_wp2_with fail
            refine pieceEnd_go HF.out ?_
            clear HF
            skip
            repeat (go_big_quiet_step (fail))
            refine wpQuiet_nil ?_
            clear b4 b5
            obtain ⟨b5, off5, hA5, hc5⟩ := LRow.cells (HR.out.later HQ3.out.2.1) k hlt
            injection hA5 with hA5
            injection hA5 with ha ho
            subst ha ho
            have HPK : Hid (PlOk z0 (own.getD k noPl)) := Lib.hid ((HR.out.later HQ3.out.2.1).at k hlt)
            have HCL : Hid (∀ v' : Value, (∀ i, v'.ownBlock = some i → w0.heap.size ≤ i) → Clear v' (own.getD k noPl)) := Lib.hid fun v' h => (HR.out.at k hlt).clear h
            have HTK := Lib.hid (take_snocP own k hlt)
            have HC5 := Lib.hid hc5
            clear hc5
            generalize hpk : own.getD k noPl = r at HPK HCL HTK HC5
            clear hpk
            have hvs : r.arr.size = 13 := rfl
            go_wp2_with (first | (refine wpList_load_cells rfl 30 (.tmp 71) rfl b (off + k * 13) rfl r.arr _ Try.underlying30 rfl r.info HC5.out ?_) | (at_builtin; (first | rw [fold13] | (rw [← hvs, fold13])); go_must (refine wpList_app_newK z0 rfl (.tmp 68) (.tmp 73) 22 30 rfl w0.heap.size Try.underlying22 stm_info rfl _ (own.take k).length (plsC (own.take k)) HQ3.out.1.own rfl 1 r.arr rfl r.ones rfl rfl (by unfold maxLen; rw [HLK.out]; omega) (by rw [HLK.out]; omega) HQ3.out.2.1.size ?_); intro x3 z3 ho hb hk1 hk2; rw [show r.arr.toList = plsC [r] from rfl] at ho; have HO3 := Lib.hid (HQ3.out.1.app (m := [r]) (fun s hs => by rw [List.mem_singleton.1 hs]; exact ⟨HPK.out, HCL.out _ (own_ge HQ3.out.1.own)⟩) ho hk1 hk2); have HB3 := Lib.hid (HQ3.out.2.1.trans hb); clear ho hb hk1 hk2))
            exact ⟨⟨k + 1, hlt, by go_num, Lib.hid (fun h => absurd h (Nat.succ_ne_zero k)), Lib.hid ⟨by rw [HTK.out]; exact HO3.out, HB3.out, by rw [← HSTEP.out]; exact HQ3.out.2.2⟩⟩, by simp [intOf]; omega⟩
          · have e0 : (0 : Int) ≤ (k : Int) - 1 := by omega
            have e1 : (k : Int) - 1 < (k : Int) := by omega
            have e2 : ((k : Int) - 1).toNat = k - 1 := by omega
            have b4 : decide ((0 : Int) < (k : Int)) = true := decide_eq_true (by omega)
            have b5 : decide (0 < k) = true := decide_eq_true (by omega)
            have hk1 : k - 1 < own.length := by omega
            have HSQ : Hid (stepR OW k = (followsR (own.getD (k - 1) noPl).s (own.getD k noPl).s && !decide ((own.getD (k - 1) noPl).s.kind = 3))) := Lib.hid (by
              unfold stepR
              rw [HST.out k hlt, HST.out (k - 1) hk1, decide_eq_true G1.out, HMORE.out, decide_eq_false g4, Bool.true_and, Bool.false_or]; rfl)
            have HP0 : Hid (0 ≤ (own.getD (k - 1) noPl).s.number ∧ (own.getD (k - 1) noPl).s.number ≤ 1000000) := Lib.hid (by
              have h := HNUM.out (by omega : 0 < k)
              omega)
            have HFO : Hid (∀ y, Below w0.heap.size w0 y → Calls Try.prog 47 #[.agg (own.getD (k - 1) noPl).arr, .agg (own.getD k noPl).arr] y (SaysL (.bool (followsR (own.getD (k - 1) noPl).s (own.getD k noPl).s)) y)) := Lib.hid fun y h => followsP_any _ _ y ((HR.out.at (k - 1) hk1).later h) (HS.out _ (HR.out.get (k - 1) hk1)) HP0.out
            clear HMORE HP0 g4
            have HGET : Hid ((own.take k).getD (k - 1) noPl = own.getD (k - 1) noPl) := Lib.hid (by
              simp only [List.getD_eq_getElem?_getD]; rw [List.getElem?_take_of_lt (by omega)])
            go_wp2_with fail
            refine wp_region_grow (by kernel_rfl) Later Later.refl (fun _ _ _ => Later.trans) [13, 14, 15, 16, 17, 18, 19, 20, 21, 22, 23] [([0, 1, 2, 3, 4, 5, 6, 7, 8, 9, 10, 11], 12)] (by kernel_rfl) (by kernel_rfl) (by kernel_rfl) ?_
            simp only [List.map_cons, List.map_nil, pick, List.getD_cons_zero, List.getD_cons_succ]
            have HQ3 : Hid (LOwn wr.drew w0.heap.size (.slice A2 k c2) (own.take k) ∧ Below w0.heap.size w0 wr.drew ∧ countsFrom OW (OW.length - k) k = countsFrom OW OW.length 0) := Lib.hid ⟨HQ.out.1.later (Below.refl _ wr).drew, HQ.out.2.1.drew, HQ.out.2.2⟩
            have HR3 : Hid (LRow wr.drew A2 k c2 (own.take k)) := Lib.hid (HR2.out.later (Below.refl _ wr).drew)
            clear HQ HR2
            generalize wr.drew = z0 at *
            obtain ⟨b2, off2, hA2, hf⟩ := LRow.futs (F := Later) Later.refl (fun _ h => h) HR3.out (k - 1) (by omega)
            subst hA2
            obtain ⟨b3, off3, hA3, hg⟩ := LRow.futs (F := Later) Later.refl (fun _ h => h) (HR.out.later HQ3.out.2.1) k hlt
            injection hA3 with hA3
            injection hA3 with ha ho
            subst ha ho
            rw [HGET.out] at hf
            have HS2 := Lib.hid HSQ.out
            generalize own.getD (k - 1) noPl = p at hf HSQ HFO HGET HS2
            generalize hq : own.getD k noPl = q at hg HSQ HFO HS2
            have HQE := Lib.hid hq; clear hq
            have hf2 := cells_futs hf; have hg2 := cells_futs hg
            clear hf hg
            refine wpGrow_cons ?_
            repeat (first | (refine wpQuiet_load rfl 30 (.tmp 50) rfl ⟨b2, off2 + (k - 1) * 13, none⟩ rfl (.agg p.arr) (fun w' h => by obtain ⟨x, rfl⟩ := h; exact hf2 x) ?_; simp only [Act.put, List.setIfInBounds_toArray, List.set_cons_succ, List.set_cons_zero]) | (refine wpQuiet_load rfl 30 (.tmp 54) rfl ⟨b, off + k * 13, none⟩ rfl (.agg q.arr) (fun w' h => by obtain ⟨x, rfl⟩ := h; exact hg2 x) ?_; simp only [Act.put, List.setIfInBounds_toArray, List.set_cons_succ, List.set_cons_zero]) | go_big_quiet_step (fail))
            refine wpQuiet_nil ?_
            clear hf2 hg2
            go_wp2_with fail
            refine (HFO.out z0 HQ3.out.2.1).mono ?_
            rintro e w2 ⟨rfl, hb⟩
            have HF : Hid (Later z0 w2) := Lib.hid hb
            have HQ4 : Hid (LOwn w2 w0.heap.size (.slice (some ⟨b2, off2, none⟩) k c2) (own.take k) ∧ Below w0.heap.size w0 w2 ∧ countsFrom OW (OW.length - k) k = countsFrom OW OW.length 0) := Lib.hid ⟨HQ3.out.1.later hb, HQ3.out.2.1.trans (hb.mono HQ3.out.2.1.size), HQ3.out.2.2⟩
            have HR4 : Hid (LRow w2 (some ⟨b2, off2, none⟩) k c2 (own.take k)) := Lib.hid (HR3.out.later hb)
            clear hb HQ3 HR3
            by_cases g5 : followsR p.s q.s = true
            · rw [g5]
              have HS3 : Hid (stepR OW k = !decide (p.s.kind = 3)) := Lib.hid (by rw [HS2.out, g5, Bool.true_and])
              clear g5 HFO HSQ HS2
              go_wp2_with fail
              refine pieceEnd_go HF.out ?_
              clear HF
              obtain ⟨b4', off4, hA4, hf⟩ := LRow.futs (F := Later) Later.refl (fun _ h => h) HR4.out (k - 1) (by omega)
              injection hA4 with hA4
              injection hA4 with ha ho
              subst ha ho
              rw [HGET.out] at hf
              have hf4 : ∀ x, (fut Later w2 x).cell? ⟨b2, off2 + (k - 1) * 13 + 4, none⟩ = some (.int .i64 p.s.kind) := fun x => hf x 4 (by rw [Pl.size]; decide)
              clear hf
              by_cases g6 : p.s.kind = 3
              · have b6 : (p.s.kind == 3) = true := by simp [g6]
                have HSTOP : Hid (countsFrom OW (OW.length - k) k = k) := Lib.hid (countsFrom_stop OW OW.length k (by rw [HOL.out]; exact hlt) (by rw [HS3.out, decide_eq_true g6]; rfl))
                clear g6
                skip
                repeat (go_big_quiet_step (fail))
                refine wpQuiet_nil ?_
                clear hf4 HS3
                have HQ2 := HQ4
                clear HQ4
                go_wp2_with fail
                go_ret
                have HEND : Hid ((own.take k).map (·.s) = CR) := Lib.hid (by rw [HCR.out, ← HQ2.out.2.2, HSTOP.out, ← HM.out, List.map_take])
                first | exact ⟨_, rfl, own.take k, HEND.out, HQ2.out.1.mono HB.out.size, HHI.out.take _, HB.out.trans (HQ2.out.2.1.mono HB.out.size)⟩ | exact ⟨_, own.take k, rfl, HEND.out, HQ2.out.1.mono HB.out.size, HHI.out.take _, HB.out.trans (HQ2.out.2.1.mono HB.out.size)⟩
              · have b6 : (p.s.kind == 3) = false := by simpa using g6
                have HSTEP : Hid (countsFrom OW (OW.length - k) k = countsFrom OW (OW.length - (k + 1)) (k + 1)) := Lib.hid (countsFrom_step OW OW.length k (by rw [HOL.out]; exact hlt) (by rw [HS3.out, decide_eq_false g6]; rfl))
                clear g6
                refine wpGrow_nil ?_
                repeat (go_big_quiet_step (fail))
                refine wpQuiet_nil ?_
                clear hf4 HS3 e0 e1 e2 b4 b5 b6
                obtain ⟨b5, off5, hA5, hc5⟩ := LRow.cells (HR.out.later HQ4.out.2.1) k hlt
                injection hA5 with hA5
                injection hA5 with ha ho
                subst ha ho
                have HPK : Hid (PlOk w2 (own.getD k noPl)) := Lib.hid ((HR.out.later HQ4.out.2.1).at k hlt)
                have HCL : Hid (∀ v' : Value, (∀ i, v'.ownBlock = some i → w0.heap.size ≤ i) → Clear v' (own.getD k noPl)) := Lib.hid fun v' h => (HR.out.at k hlt).clear h
                have HTK := Lib.hid (take_snocP own k hlt)
                have HC5 := Lib.hid hc5
                clear hc5
                generalize hpk : own.getD k noPl = r at HPK HCL HTK HC5
                clear hpk
                have hvs : r.arr.size = 13 := rfl
                go_wp2_with (first | (refine wpList_load_cells rfl 30 (.tmp 71) rfl b (off + k * 13) rfl r.arr _ Try.underlying30 rfl r.info HC5.out ?_) | (at_builtin; (first | rw [fold13] | (rw [← hvs, fold13])); go_must (refine wpList_app_newK w2 rfl (.tmp 68) (.tmp 73) 22 30 rfl w0.heap.size Try.underlying22 stm_info rfl _ (own.take k).length (plsC (own.take k)) HQ4.out.1.own rfl 1 r.arr rfl r.ones rfl rfl (by unfold maxLen; rw [HLK.out]; omega) (by rw [HLK.out]; omega) HQ4.out.2.1.size ?_); intro x3 z3 ho hb hk1 hk2; rw [show r.arr.toList = plsC [r] from rfl] at ho; have HO3 := Lib.hid (HQ4.out.1.app (m := [r]) (fun s hs => by rw [List.mem_singleton.1 hs]; exact ⟨HPK.out, HCL.out _ (own_ge HQ4.out.1.own)⟩) ho hk1 hk2); have HB3 := Lib.hid (HQ4.out.2.1.trans hb); clear ho hb hk1 hk2))
                exact ⟨⟨k + 1, hlt, by go_num, Lib.hid (fun h => absurd h (Nat.succ_ne_zero k)), Lib.hid ⟨by rw [HTK.out]; exact HO3.out, HB3.out, by rw [← HSTEP.out]; exact HQ4.out.2.2⟩⟩, by simp [intOf]; omega⟩
            · rw [show followsR p.s q.s = false by simpa using g5]
              have HSTOP : Hid (countsFrom OW (OW.length - k) k = k) := Lib.hid (countsFrom_stop OW OW.length k (by rw [HOL.out]; exact hlt) (by rw [HS2.out, show followsR p.s q.s = false by simpa using g5]; rfl))
              clear g5 HFO HSQ HS2
              go_wp2_with fail
              refine pieceEnd_go HF.out ?_
              clear HF
              skip
              repeat (go_big_quiet_step (fail))
              refine wpQuiet_nil ?_
              have HQ2 := HQ4
              clear HQ4
              go_wp2_with fail
              go_ret
              have HEND : Hid ((own.take k).map (·.s) = CR) := Lib.hid (by rw [HCR.out, ← HQ2.out.2.2, HSTOP.out, ← HM.out, List.map_take])
              first | exact ⟨_, rfl, own.take k, HEND.out, HQ2.out.1.mono HB.out.size, HHI.out.take _, HB.out.trans (HQ2.out.2.1.mono HB.out.size)⟩ | exact ⟨_, own.take k, rfl, HEND.out, HQ2.out.1.mono HB.out.size, HHI.out.take _, HB.out.trans (HQ2.out.2.1.mono HB.out.size)⟩
      · have b1 : ((own.getD k noPl).s.number != (k : Int)) = true := by rw [bne_iff_ne]; exact g1
        have HSTOP : Hid (countsFrom OW (OW.length - k) k = k) := Lib.hid (countsFrom_stop OW OW.length k (by rw [HOL.out]; exact hlt) (by
          unfold stepR
          rw [HST.out k hlt, decide_eq_false g1]; rfl))
        have HQ2 := HQ
        clear HQ g1
        generalize hx1 : (own.getD k noPl).s.number = x1 at hc1 b1
        clear hx1
        go_wp2_with fail
        go_ret
        have HEND : Hid ((own.take k).map (·.s) = CR) := Lib.hid (by rw [HCR.out, ← HQ2.out.2.2, HSTOP.out, ← HM.out, List.map_take])
        first | exact ⟨_, rfl, own.take k, HEND.out, HQ2.out.1.mono HB.out.size, HHI.out.take _, HB.out.trans (HQ2.out.2.1.mono HB.out.size)⟩ | exact ⟨_, own.take k, rfl, HEND.out, HQ2.out.1.mono HB.out.size, HHI.out.take _, HB.out.trans (HQ2.out.2.1.mono HB.out.size)⟩
    · have hlt2 : ¬ (k : Int) < (own.length : Int) := by omega
      have HE : Hid (k = own.length) := by unfold Hid; omega
      have HSTOP : Hid (countsFrom OW (OW.length - k) k = k) := Lib.hid (by rw [HOL.out, HE.out, Nat.sub_self]; rfl)
      have HQ2 := HQ
      clear HQ
      go_wp2_with fail
      go_ret
      have HEND : Hid ((own.take k).map (·.s) = CR) := Lib.hid (by rw [HCR.out, ← HQ2.out.2.2, HSTOP.out, ← HM.out, List.map_take])
      first | exact ⟨_, rfl, own.take k, HEND.out, HQ2.out.1.mono HB.out.size, HHI.out.take _, HB.out.trans (HQ2.out.2.1.mono HB.out.size)⟩ | exact ⟨_, own.take k, rfl, HEND.out, HQ2.out.1.mono HB.out.size, HHI.out.take _, HB.out.trans (HQ2.out.2.1.mono HB.out.size)⟩
theorem refCounted_any (au : Int) (A : Option Addr) (n c : Nat) (l : List Pl) (w : World) (hl : LRow w A n c l) (hn : n ≤ 100000) (hs : ∀ p ∈ l, Small p.s) :
    Calls Try.prog 36 #[.int .i64 au, .slice A n c] w fun e w' => ∃ v l', e = .returned v ∧ l'.map (·.s) = countedR au (l.map (·.s)) ∧ LOwn w' w.heap.size v l' ∧ Below w.heap.size w w' :=
  (refCounted_hi au A n c l w hl hn hs).mono fun _ _ ⟨v, l', h1, h2, h3, _, h5⟩ => ⟨v, l', h1, h2, h3, h5⟩
end Go.Proofs.Ytdeojmgcofakeaa
/- Walks of the reference's Until, Window, and the store's Of, over any list. -/
namespace Go.Proofs.Ytdeojmgcofakeaa
open Go.RowKit
def untilS (tm : Int) (l : List Stm) : List Stm := l.filter (fun s => decide (s.time ≤ tm))
set_option maxRecDepth 100000 in
set_option maxHeartbeats 4000000 in
theorem refUntil_any (A : Option Addr) (n c : Nat) (l : List Pl) (tm : Int) (w : World) (hl : LRow w A n c l) (hn : n ≤ 100000) (hs : ∀ p ∈ l, Few p.s) :
    Calls Try.prog 12 #[.slice A n c, .int .i64 tm] w fun e w' => ∃ v l', e = .returned v ∧ l'.map (·.s) = untilS tm (l.map (·.s)) ∧ LOwn w' w.heap.size v l' ∧ Below w.heap.size w w' := by
  have HL := Lib.hid hl; have HLN := Lib.hid hl.len; have HS := Lib.hid hs
  clear hl hs
  go_enter Try.func12, Try.ntmps12
  go_wp2_with fail
  go_loopw [5, 6] (fun v i wr => ∃ (j : Nat) (l' : List Pl), j ≤ n ∧ i = .int .i64 j ∧ Hid (LOwn wr w.heap.size v l' ∧ l'.map (·.s) = ((l.take j).map (·.s)).filter (fun s => decide (s.time ≤ tm)) ∧ Below w.heap.size w wr)) (fun _ i _ => n - (intOf i).toNat)
  case atStart => exact ⟨0, [], Nat.zero_le _, rfl, Lib.hid ⟨LOwn.nil _ _, rfl, Below.refl _ _⟩⟩
  case round =>
    obtain ⟨j, l', hj, rfl, HQ⟩ := hrel
    by_cases hlt : j < n
    · have HLJ := Lib.hid (HL.out.later HQ.out.2.2)
      obtain ⟨b, off, hA, hc⟩ := HLJ.out.cells j hlt
      subst hA
      have HOK := Lib.hid (HLJ.out.at j hlt); have HSM := Lib.hid (HS.out _ (HL.out.get j hlt))
      have HT : Hid ((l.take (j + 1)).map (·.s) = (l.take j).map (·.s) ++ [(l.getD j noPl).s]) := Lib.hid (by rw [take_snocP l j (by rw [HLN.out]; exact hlt), List.map_append]; rfl)
      have HC := Lib.hid hc
      have hck : wr.cell? ⟨b, off + j * 13 + 3, none⟩ = some (.int .i64 (l.getD j noPl).s.time) := hc 3 (by rw [Pl.size]; decide)
      clear hc HLJ
      generalize l.getD j noPl = p at *
      have hlt2 : (j : Int) < (n : Int) := by omega
      have HLE : Hid (l'.length ≤ n) := Lib.hid (by have h := congrArg List.length HQ.out.2.1; have h2 := List.length_filter_le (fun s : Stm => decide (s.time ≤ tm)) ((l.take j).map (·.s)); simp only [List.length_map, List.length_take] at h h2; omega)
      by_cases g0 : p.s.time ≤ tm
      · have b0 : decide (p.s.time ≤ tm) = true := decide_eq_true g0
        have HF : Hid ([p.s].filter (fun s => decide (s.time ≤ tm)) = [p.s]) := Lib.hid (by rw [List.filter_cons_of_pos (by exact b0), List.filter_nil])
        skip
        go_wp2_with (refine wpList_load_cells rfl 30 (.tmp 23) rfl b (off + j * 13) rfl p.arr _ Try.underlying30 rfl p.info HC.out ?_)
        refine (copyP_few p wr HOK.out HSM.out).mono ?_
        rintro e w2 ⟨q, rfl, hqs, hqo, hna, hnb, hb⟩
        have HQS := Lib.hid hqs; have HQO := Lib.hid hqo
        have HCL := Lib.hid (clear_new (q := q) hna hnb (own_lt HQ.out.1.own))
        have HO2 := Lib.hid (HQ.out.1.later hb); have HB2 := Lib.hid (HQ.out.2.2.trans (hb.mono HQ.out.2.2.size)); have HM2 := Lib.hid HQ.out.2.1
        clear hqs hqo hna hnb hb HQ HC HOK HSM
        have hle := HLE.out
        have hvs : q.arr.size = 13 := rfl
        go_wp2_with (at_builtin; (first | rw [fold13] | (rw [← hvs, fold13])); go_must (refine wpList_app_newK w2 rfl (.tmp 20) (.tmp 26) 22 30 rfl w.heap.size Try.underlying22 stm_info rfl _ l'.length (plsC l') HO2.out.own rfl 1 q.arr rfl q.ones rfl rfl (by unfold maxLen; omega) (by omega) HB2.out.size ?_); intro x3 z3 ho hb hk1 hk2; rw [show q.arr.toList = plsC [q] from rfl] at ho; have HO3 := Lib.hid (HO2.out.app (m := [q]) (fun r hr => by rw [List.mem_singleton.1 hr]; exact ⟨HQO.out, HCL.out⟩) ho hk1 hk2); have HB3 := Lib.hid (HB2.out.trans hb); clear ho hb hk1 hk2)
        refine ⟨⟨j + 1, l' ++ [q], hlt, by go_num, Lib.hid ⟨HO3.out, ?_, HB3.out⟩⟩, by simp [intOf]; omega⟩
        rw [List.map_append, HM2.out, HT.out, List.filter_append, HF.out, List.map_cons, List.map_nil, HQS.out]
      · skip
        have b0 : decide (p.s.time ≤ tm) = false := decide_eq_false g0
        have HF : Hid ([p.s].filter (fun s => decide (s.time ≤ tm)) = []) := Lib.hid (by rw [List.filter_cons_of_neg (by exact (show ¬ decide (p.s.time ≤ tm) = true by rw [b0]; decide)), List.filter_nil])
        skip
        go_wp2_with fail
        refine ⟨⟨j + 1, l', hlt, by go_num, Lib.hid ⟨HQ.out.1, ?_, HQ.out.2.2⟩⟩, by simp [intOf]; omega⟩
        rw [HQ.out.2.1, HT.out, List.filter_append, HF.out, List.append_nil]
    · have hlt2 : ¬ (j : Int) < (n : Int) := by omega
      have HE : Hid (j = n) := by unfold Hid; omega
      go_wp2_with fail
      go_ret
      exact ⟨_, rfl, l', by rw [HQ.out.2.1, HE.out, List.take_of_length_le (by rw [HLN.out]; exact Nat.le_refl _)]; rfl, HQ.out.1, HQ.out.2.2⟩
def windowS (fr to : Int) (l : List Stm) : List Stm := l.filter (fun s => decide (fr ≤ s.time) && decide (s.time ≤ to))
set_option maxRecDepth 100000 in
set_option maxHeartbeats 4000000 in
theorem refWindow_any (A : Option Addr) (n c : Nat) (l : List Pl) (fr to : Int) (w : World) (hl : LRow w A n c l) (hn : n ≤ 100000) (hs : ∀ p ∈ l, Few p.s) :
    Calls Try.prog 14 #[.slice A n c, .int .i64 fr, .int .i64 to] w fun e w' => ∃ v l', e = .returned v ∧ l'.map (·.s) = windowS fr to (l.map (·.s)) ∧ LOwn w' w.heap.size v l' ∧ Below w.heap.size w w' := by
  have HL := Lib.hid hl; have HLN := Lib.hid hl.len; have HS := Lib.hid hs
  clear hl hs
  go_enter Try.func14, Try.ntmps14
  go_wp2_with fail
  go_loopw [7, 8] (fun v i wr => ∃ (j : Nat) (l' : List Pl), j ≤ n ∧ i = .int .i64 j ∧ Hid (LOwn wr w.heap.size v l' ∧ l'.map (·.s) = ((l.take j).map (·.s)).filter (fun s => decide (fr ≤ s.time) && decide (s.time ≤ to)) ∧ Below w.heap.size w wr)) (fun _ i _ => n - (intOf i).toNat)
  case atStart => exact ⟨0, [], Nat.zero_le _, rfl, Lib.hid ⟨LOwn.nil _ _, rfl, Below.refl _ _⟩⟩
  case round =>
    obtain ⟨j, l', hj, rfl, HQ⟩ := hrel
    by_cases hlt : j < n
    · have HLJ := Lib.hid (HL.out.later HQ.out.2.2)
      obtain ⟨b, off, hA, hc⟩ := HLJ.out.cells j hlt
      subst hA
      have HOK := Lib.hid (HLJ.out.at j hlt); have HSM := Lib.hid (HS.out _ (HL.out.get j hlt))
      have HT : Hid ((l.take (j + 1)).map (·.s) = (l.take j).map (·.s) ++ [(l.getD j noPl).s]) := Lib.hid (by rw [take_snocP l j (by rw [HLN.out]; exact hlt), List.map_append]; rfl)
      have HC := Lib.hid hc
      have hck : wr.cell? ⟨b, off + j * 13 + 3, none⟩ = some (.int .i64 (l.getD j noPl).s.time) := hc 3 (by rw [Pl.size]; decide)
      clear hc HLJ
      generalize l.getD j noPl = p at *
      have hlt2 : (j : Int) < (n : Int) := by omega
      have HLE : Hid (l'.length ≤ n) := Lib.hid (by have h := congrArg List.length HQ.out.2.1; have h2 := List.length_filter_le (fun s : Stm => decide (fr ≤ s.time) && decide (s.time ≤ to)) ((l.take j).map (·.s)); simp only [List.length_map, List.length_take] at h h2; omega)
      by_cases g0 : ¬ fr ≤ p.s.time
      · have b0 : decide (p.s.time ≥ fr) = false := decide_eq_false g0
        have b1 : decide (fr ≤ p.s.time) = false := decide_eq_false g0
        have HF : Hid ([p.s].filter (fun s => decide (fr ≤ s.time) && decide (s.time ≤ to)) = []) := Lib.hid (by rw [List.filter_cons_of_neg (by exact (show ¬ (decide (fr ≤ p.s.time) && decide (p.s.time ≤ to)) = true by rw [b1, Bool.false_and]; decide)), List.filter_nil])
        skip
        go_wp2_with fail
        refine ⟨⟨j + 1, l', hlt, by go_num, Lib.hid ⟨HQ.out.1, ?_, HQ.out.2.2⟩⟩, by simp [intOf]; omega⟩
        rw [HQ.out.2.1, HT.out, List.filter_append, HF.out, List.append_nil]
      · skip
        by_cases g1 : p.s.time ≤ to
        · have g2 : fr ≤ p.s.time := by omega
          have b0 : decide (p.s.time ≥ fr) = true := decide_eq_true g2
          have b1 : decide (fr ≤ p.s.time) = true := decide_eq_true g2
          have b2 : decide (p.s.time ≤ to) = true := decide_eq_true g1
          have HF : Hid ([p.s].filter (fun s => decide (fr ≤ s.time) && decide (s.time ≤ to)) = [p.s]) := Lib.hid (by rw [List.filter_cons_of_pos (by exact (show (decide (fr ≤ p.s.time) && decide (p.s.time ≤ to)) = true by rw [b1, b2]; rfl)), List.filter_nil])
          skip
          go_wp2_with (refine wpList_load_cells rfl 30 (.tmp 34) rfl b (off + j * 13) rfl p.arr _ Try.underlying30 rfl p.info HC.out ?_)
          refine (copyP_few p wr HOK.out HSM.out).mono ?_
          rintro e w2 ⟨q, rfl, hqs, hqo, hna, hnb, hb⟩
          have HQS := Lib.hid hqs; have HQO := Lib.hid hqo
          have HCL := Lib.hid (clear_new (q := q) hna hnb (own_lt HQ.out.1.own))
          have HO2 := Lib.hid (HQ.out.1.later hb); have HB2 := Lib.hid (HQ.out.2.2.trans (hb.mono HQ.out.2.2.size)); have HM2 := Lib.hid HQ.out.2.1
          clear hqs hqo hna hnb hb HQ HC HOK HSM
          have hle := HLE.out
          have hvs : q.arr.size = 13 := rfl
          go_wp2_with (at_builtin; (first | rw [fold13] | (rw [← hvs, fold13])); go_must (refine wpList_app_newK w2 rfl (.tmp 31) (.tmp 37) 22 30 rfl w.heap.size Try.underlying22 stm_info rfl _ l'.length (plsC l') HO2.out.own rfl 1 q.arr rfl q.ones rfl rfl (by unfold maxLen; omega) (by omega) HB2.out.size ?_); intro x3 z3 ho hb hk1 hk2; rw [show q.arr.toList = plsC [q] from rfl] at ho; have HO3 := Lib.hid (HO2.out.app (m := [q]) (fun r hr => by rw [List.mem_singleton.1 hr]; exact ⟨HQO.out, HCL.out⟩) ho hk1 hk2); have HB3 := Lib.hid (HB2.out.trans hb); clear ho hb hk1 hk2)
          refine ⟨⟨j + 1, l' ++ [q], hlt, by go_num, Lib.hid ⟨HO3.out, ?_, HB3.out⟩⟩, by simp [intOf]; omega⟩
          rw [List.map_append, HM2.out, HT.out, List.filter_append, HF.out, List.map_cons, List.map_nil, HQS.out]
        · skip
          have g2 : fr ≤ p.s.time := by omega
          have b0 : decide (p.s.time ≥ fr) = true := decide_eq_true g2
          have b1 : decide (fr ≤ p.s.time) = true := decide_eq_true g2
          have b2 : decide (p.s.time ≤ to) = false := decide_eq_false g1
          have HF : Hid ([p.s].filter (fun s => decide (fr ≤ s.time) && decide (s.time ≤ to)) = []) := Lib.hid (by rw [List.filter_cons_of_neg (by exact (show ¬ (decide (fr ≤ p.s.time) && decide (p.s.time ≤ to)) = true by rw [b1, b2]; decide)), List.filter_nil])
          skip
          go_wp2_with fail
          refine ⟨⟨j + 1, l', hlt, by go_num, Lib.hid ⟨HQ.out.1, ?_, HQ.out.2.2⟩⟩, by simp [intOf]; omega⟩
          rw [HQ.out.2.1, HT.out, List.filter_append, HF.out, List.append_nil]
    · have hlt2 : ¬ (j : Int) < (n : Int) := by omega
      have HE : Hid (j = n) := by unfold Hid; omega
      go_wp2_with fail
      go_ret
      exact ⟨_, rfl, l', by rw [HQ.out.2.1, HE.out, List.take_of_length_le (by rw [HLN.out]; exact Nat.le_refl _)]; rfl, HQ.out.1, HQ.out.2.2⟩
def ofS (au : Int) (l : List Stm) : List Stm := l.filter (fun s => decide (s.author = au))
set_option maxRecDepth 100000 in
set_option maxHeartbeats 4000000 in
theorem refOf_any (A : Option Addr) (n c : Nat) (l : List Pl) (au : Int) (w : World) (hl : LRow w A n c l) (hn : n ≤ 100000) (hs : ∀ p ∈ l, Few p.s) :
    Calls Try.prog 37 #[.agg #[.slice A n c], .int .i64 au] w fun e w' => ∃ v l', e = .returned v ∧ l'.map (·.s) = ofS au (l.map (·.s)) ∧ LOwn w' w.heap.size v l' ∧ Below w.heap.size w w' := by
  have HL := Lib.hid hl; have HLN := Lib.hid hl.len; have HS := Lib.hid hs
  clear hl hs
  go_enter Try.func37, Try.ntmps37
  go_wp2_with fail
  have HNW := Lib.hid (one_new w (.cells #[.slice A n c] 42))
  have HG : Hid ((w.alloc (.cells #[.slice A n c] 42)).heap[w.heap.size]? = some (.cells #[.slice A n c] 42 (0, 0))) := Lib.hid (heap_alloc_new _ _)
  generalize w.alloc (.cells #[.slice A n c] 42) = y0 at *
  have HGL : Hid (w.heap.size < y0.heap.size) := Lib.hid (Array.getElem?_eq_some_iff.1 HG.out).1
  replace HL := Lib.hid (HL.out.later HNW.out)
  go_loopw [5, 6] (fun v i wr => ∃ (j : Nat) (l' : List Pl), j ≤ n ∧ i = .int .i64 j ∧ Hid (LOwn wr y0.heap.size v l' ∧ l'.map (·.s) = ((l.take j).map (·.s)).filter (fun s => decide (s.author = au)) ∧ Below y0.heap.size y0 wr)) (fun _ i _ => n - (intOf i).toNat)
  case atStart => exact ⟨0, [], Nat.zero_le _, rfl, Lib.hid ⟨LOwn.nil _ _, rfl, Below.refl _ _⟩⟩
  case round =>
    obtain ⟨j, l', hj, rfl, HQ⟩ := hrel
    have hX0 : wr.cell? ⟨w.heap.size, 0, none⟩ = some (.slice A n c) := cell_of_row _ _ 0 _ _ _ ((HQ.out.2.2.block _ HGL.out).trans HG.out)
    by_cases hlt : j < n
    · have HLJ := Lib.hid (HL.out.later HQ.out.2.2)
      obtain ⟨b, off, hA, hc⟩ := HLJ.out.cells j hlt
      subst hA
      have HOK := Lib.hid (HLJ.out.at j hlt); have HSM := Lib.hid (HS.out _ (HL.out.get j hlt))
      have HT : Hid ((l.take (j + 1)).map (·.s) = (l.take j).map (·.s) ++ [(l.getD j noPl).s]) := Lib.hid (by rw [take_snocP l j (by rw [HLN.out]; exact hlt), List.map_append]; rfl)
      have HC := Lib.hid hc
      have hck : wr.cell? ⟨b, off + j * 13, none⟩ = some (.int .i64 (l.getD j noPl).s.author) := hc 0 (by rw [Pl.size]; decide)
      clear hc HLJ
      generalize l.getD j noPl = p at *
      have hlt2 : (j : Int) < (n : Int) := by omega
      have HLE : Hid (l'.length ≤ n) := Lib.hid (by have h := congrArg List.length HQ.out.2.1; have h2 := List.length_filter_le (fun s : Stm => decide (s.author = au)) ((l.take j).map (·.s)); simp only [List.length_map, List.length_take] at h h2; omega)
      by_cases g0 : p.s.author = au
      · have b0 : (p.s.author == au) = true := by rw [g0]; simp
        have b1 : decide (p.s.author = au) = true := decide_eq_true g0
        have HF : Hid ([p.s].filter (fun s => decide (s.author = au)) = [p.s]) := Lib.hid (by rw [List.filter_cons_of_pos (by exact b1), List.filter_nil])
        skip
        go_wp2_with (refine wpList_load_cells rfl 30 (.tmp 26) rfl b (off + j * 13) rfl p.arr _ Try.underlying30 rfl p.info HC.out ?_)
        refine (copyP_few p wr HOK.out HSM.out).mono ?_
        rintro e w2 ⟨q, rfl, hqs, hqo, hna, hnb, hb⟩
        have HQS := Lib.hid hqs; have HQO := Lib.hid hqo
        have HCL := Lib.hid (clear_new (q := q) hna hnb (own_lt HQ.out.1.own))
        have HO2 := Lib.hid (HQ.out.1.later hb); have HB2 := Lib.hid (HQ.out.2.2.trans (hb.mono HQ.out.2.2.size)); have HM2 := Lib.hid HQ.out.2.1
        clear hqs hqo hna hnb hb HQ HC HOK HSM
        have hle := HLE.out
        have hvs : q.arr.size = 13 := rfl
        go_wp2_with (at_builtin; (first | rw [fold13] | (rw [← hvs, fold13])); go_must (refine wpList_app_newK w2 rfl (.tmp 22) (.tmp 29) 22 30 rfl y0.heap.size Try.underlying22 stm_info rfl _ l'.length (plsC l') HO2.out.own rfl 1 q.arr rfl q.ones rfl rfl (by unfold maxLen; omega) (by omega) HB2.out.size ?_); intro x3 z3 ho hb hk1 hk2; rw [show q.arr.toList = plsC [q] from rfl] at ho; have HO3 := Lib.hid (HO2.out.app (m := [q]) (fun r hr => by rw [List.mem_singleton.1 hr]; exact ⟨HQO.out, HCL.out⟩) ho hk1 hk2); have HB3 := Lib.hid (HB2.out.trans hb); clear ho hb hk1 hk2)
        refine ⟨⟨j + 1, l' ++ [q], hlt, by go_num, Lib.hid ⟨HO3.out, ?_, HB3.out⟩⟩, by simp [intOf]; omega⟩
        rw [List.map_append, HM2.out, HT.out, List.filter_append, HF.out, List.map_cons, List.map_nil, HQS.out]
      · skip
        have b0 : (p.s.author == au) = false := by rw [beq_eq_false_iff_ne]; exact g0
        have b1 : decide (p.s.author = au) = false := decide_eq_false g0
        have HF : Hid ([p.s].filter (fun s => decide (s.author = au)) = []) := Lib.hid (by rw [List.filter_cons_of_neg (by exact (show ¬ decide (p.s.author = au) = true by rw [b1]; decide)), List.filter_nil])
        skip
        go_wp2_with fail
        refine ⟨⟨j + 1, l', hlt, by go_num, Lib.hid ⟨HQ.out.1, ?_, HQ.out.2.2⟩⟩, by simp [intOf]; omega⟩
        rw [HQ.out.2.1, HT.out, List.filter_append, HF.out, List.append_nil]
    · have hlt2 : ¬ (j : Int) < (n : Int) := by omega
      have HE : Hid (j = n) := by unfold Hid; omega
      go_wp2_with fail
      go_ret
      exact ⟨_, rfl, l', by rw [HQ.out.2.1, HE.out, List.take_of_length_le (by rw [HLN.out]; exact Nat.le_refl _)]; rfl, HQ.out.1.mono (Nat.le_of_lt HGL.out), HNW.out.trans (HQ.out.2.2.mono HNW.out.size)⟩
end Go.Proofs.Ytdeojmgcofakeaa
