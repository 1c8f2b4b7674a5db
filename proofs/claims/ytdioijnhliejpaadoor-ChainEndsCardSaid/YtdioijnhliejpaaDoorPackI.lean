import Derived.Test.YtdioijnhliejpaaDoorPackG
import Derived.Test.YtdioijnhliejpaaDoorPackE
import Derived.Test.YtdioijnhliejpaaDoorPackH
/- The walk of the law ChainEnds. -/
namespace Go.Proofs.YtdioijnhliejpaaDoor
open Go.RowKit


set_option maxRecDepth 100000 in
set_option maxHeartbeats 40000000 in
theorem ends_any (TA : Option Addr) (tn tc : Nat) (t : List Int) (back : Int) (w : World) (ht : Row w TA tn tc 1 (intsV t)) (hr : Rounds w) :
    Calls Tryd.prog 4 #[.slice TA tn tc, .int .i64 back] w fun e w' => e = .returned (.bool true) ∧ Below w.heap.size w w' := by
  have HT := Lib.hid ht
  have HRR : Hid (∀ y, Below w.heap.size w y → Rounds y) := Lib.hid fun y h => hr.later h
  clear ht hr
  have HSA : Hid (∀ y, Below w.heap.size w y → Calls Tryd.prog 6 #[] y (SaysL (.bool true) y)) := Lib.hid fun y hy => sane_any y (HRR.out y hy)
  have HNX : Hid (∀ y A m cp l tm r x, Below w.heap.size w y → SRow y A m cp l → Whole' (1 : Nat) l → l.length ≤ 4 → nextR (1 : Nat) l (draft tm 10 r) = (x, 0) → Calls Tryd.prog 9 #[.int .i64 1, .slice A m cp, .agg #[.int .i64 0, .int .i64 0, .string ⟨#[]⟩, .int .i64 tm, .int .i64 10, .int .i64 (r : Nat), .int .i64 0, .int .i64 0, .slice none 0 0, .slice none 0 0, .string ⟨#[]⟩, .int .i64 0, .string ⟨#[]⟩]] y (SaysL (.tuple #[.agg #[.int .i64 x.author, .int .i64 x.number, .string x.prev, .int .i64 x.time, .int .i64 x.kind, .int .i64 x.a, .int .i64 x.b, .int .i64 x.c, .slice none 0 0, .slice none 0 0, .string x.body, .int .i64 x.key, .string x.dig], .int .i64 0]) y)) := Lib.hid fun y A m cp l tm r x hy hrow hw hl hn => by
    have h := chainNext_any ((1 : Nat) : Int) A m cp l (draft tm 10 r) y hrow hw.good (by have := hrow.len; omega) (HRR.out y hy) hw.two (hw.count (by omega)) (draft_small _ _ _) ⟨rfl, rfl⟩
    rw [hn] at h
    exact h
  go_enter Tryd.func4, Tryd.ntmps4
  go_wp2_with fail
  refine (light_any TA tn tc w).mono ?_
  rintro e w0 ⟨rfl, rfl⟩
  by_cases hlight : tn ≤ 400
  · rw [decide_eq_true hlight]
    go_wp2_with fail
    refine (roll_any w.heap.size TA tn tc t w HT.out (by omega) (Nat.le_refl _) (fun ad e h0 => Row.lt HT.out (by decide) ad e h0)).mono ?_
    rintro e w1 ⟨rfl, hd, hb⟩
    have HB1 := Lib.hid hb; have HD1 := Lib.hid hd
    have HLT : Hid (w.heap.size < w1.heap.size) := Lib.hid hd.lt
    clear hd hb
    go_wp2_with fail
    refine (next_any w.heap.size w.heap.size t 0 4 w1 HD1.out (by decide) (by decide)).mono ?_
    rintro e w2 ⟨rfl, hd, hb⟩
    have HD2 := Lib.hid hd
    have HB2 : Hid (Below w.heap.size w w2) := Lib.hid (HB1.out.trans (hb.below (Nat.le_refl _) HB1.out.size))
    have hv := diceV_bd t 0 4 (by decide)
    obtain ⟨r0, hr0⟩ : ∃ r0 : Nat, 1 + diceV t 0 4 = (r0 : Int) := ⟨(1 + diceV t 0 4).toNat, by omega⟩
    have HR0 : Hid (1 ≤ r0 ∧ r0 ≤ 4) := Lib.hid (by omega)
    have HS2 : Hid (w1.heap.size ≤ w2.heap.size) := Lib.hid hb.size
    obtain ⟨K2, hK2⟩ : ∃ K2, K2 = diceK t 0 := ⟨_, rfl⟩
    rw [← hK2] at HD2
    generalize diceV t 0 4 = v0 at hr0 hv ⊢
    clear hd hb hK2
    go_wp2_with fail
    try rw [hr0]
    clear hr0 hv
    go_loopw [6, 7, 8] (fun x6 x7 x8 wr => ∃ (r tm m cp k : Nat) (A : Option Addr) (l : List Stm), x6 = .slice A m cp ∧ x7 = .int .i64 (tm : Int) ∧ x8 = .int .i64 (r : Int) ∧ Hid (State r l tm ∧ wr.ownsRow w1.heap.size 33 13 (.slice A m cp) m (stmsC l) ∧ DiceAt wr w.heap.size w.heap.size t k ∧ Below w.heap.size w wr ∧ w1.heap.size ≤ wr.heap.size)) (fun _ _ x8 _ => (intOf x8).toNat)
    case atStart => exact ⟨r0, 50, 0, 0, K2, none, [], rfl, rfl, rfl, Lib.hid ⟨.inl ⟨rfl, rfl, HR0.out.1, HR0.out.2⟩, World.ownsRow_nil _ _ _ _, HD2.out, HB2.out, HS2.out⟩⟩
    case round =>
      obtain ⟨r, tm, m, cp, k, A, l, rfl, rfl, rfl, HQ⟩ := hrel
      clear HD1 HD2 HB2 HR0 HS2 K2
      by_cases h1r : 1 ≤ r
      · obtain ⟨x, hnx, hwl, hl4, htm, hr4, hgo⟩ := state_next HQ.out.1 h1r
        have HGO := Lib.hid hgo
        have hrow : SRow wr A m cp l := by
          obtain ⟨A5, c5, e5, hr5⟩ := Row.of_own HQ.out.2.1
          injection e5 with e6 e7 e8
          subst e6 e8
          exact hr5
        have HML : Hid (l.length = m) := Lib.hid hrow.len
        have HX := Lib.hid (HNX.out wr A m cp l (tm : Int) r x HQ.out.2.2.2.1 hrow hwl hl4 hnx)
        have hm4 : m ≤ 4 := by rw [← HML.out]; exact hl4
        clear hnx hwl hl4 hgo hrow
        go_wp2_with fail
        refine HX.out.mono ?_
        rintro e w3 ⟨rfl, hb⟩
        have HB3 := Lib.hid hb
        clear hb HX
        have HY3 : Hid (Below wr.heap.size wr (w3.alloc (.cells #[.int .i64 x.author, .int .i64 x.number, .string x.prev, .int .i64 x.time, .int .i64 x.kind, .int .i64 x.a, .int .i64 x.b, .int .i64 x.c, .slice none 0 0, .slice none 0 0, .string x.body, .int .i64 x.key, .string x.dig] 33))) := Lib.hid (HB3.out.trans ((one_new w3 _).mono HB3.out.size))
        have HOW : Hid ((w3.alloc (.cells #[.int .i64 x.author, .int .i64 x.number, .string x.prev, .int .i64 x.time, .int .i64 x.kind, .int .i64 x.a, .int .i64 x.b, .int .i64 x.c, .slice none 0 0, .slice none 0 0, .string x.body, .int .i64 x.key, .string x.dig] 33)).ownsRow w1.heap.size 33 13 (.slice A m cp) m (stmsC l)) := Lib.hid (own_below HQ.out.2.1 HY3.out (own_lt HQ.out.2.1))
        have hsz3 : w1.heap.size ≤ (w3.alloc (.cells #[.int .i64 x.author, .int .i64 x.number, .string x.prev, .int .i64 x.time, .int .i64 x.kind, .int .i64 x.a, .int .i64 x.b, .int .i64 x.c, .slice none 0 0, .slice none 0 0, .string x.body, .int .i64 x.key, .string x.dig] 33)).heap.size := Nat.le_trans HQ.out.2.2.2.2 HY3.out.size
        go_wp2_with (first | (refine wpList_store_new rfl 33 (.tmp 9) (.tmp 39) rfl 33 _ #[.int .i64 x.author, .int .i64 x.number, .string x.prev, .int .i64 x.time, .int .i64 x.kind, .int .i64 x.a, .int .i64 x.b, .int .i64 x.c, .slice none 0 0, .slice none 0 0, .string x.body, .int .i64 x.key, .string x.dig] rfl rfl (by kernel_rfl) rfl (by simp [Value.oneCell']) ?_) | (refine wpList_load_row rfl 33 (.tmp 9) rfl (w3.heap.size) rfl 33 #[.int .i64 x.author, .int .i64 x.number, .string x.prev, .int .i64 x.time, .int .i64 x.kind, .int .i64 x.a, .int .i64 x.b, .int .i64 x.c, .slice none 0 0, .slice none 0 0, .string x.body, .int .i64 x.key, .string x.dig] (0, 0) _ (BoxS.new w3 x) Tryd.underlying33 rfl (by kernel_rfl) ?_) | (at_builtin; go_must (refine wpList_app_newK (w3.alloc (.cells #[.int .i64 x.author, .int .i64 x.number, .string x.prev, .int .i64 x.time, .int .i64 x.kind, .int .i64 x.a, .int .i64 x.b, .int .i64 x.c, .slice none 0 0, .slice none 0 0, .string x.body, .int .i64 x.key, .string x.dig] 33)) rfl (.tmp 43) (.tmp 45) 27 33 rfl w1.heap.size Tryd.underlying27 stm_info rfl _ m (stmsC l) HOW.out rfl 1 #[.int .i64 x.author, .int .i64 x.number, .string x.prev, .int .i64 x.time, .int .i64 x.kind, .int .i64 x.a, .int .i64 x.b, .int .i64 x.c, .slice none 0 0, .slice none 0 0, .string x.body, .int .i64 x.key, .string x.dig] rfl (by simp [Value.oneCell']) (by rw [World.size_alloc]; rfl) rfl (by unfold maxLen; omega) (by omega) hsz3 ?_); intro x4 z4 ho hb4 hk4 hk5; obtain ⟨A6, c6, hv6, hr6⟩ := Row.of_own ho; subst hv6; have HO4 := Lib.hid ho; have HB4 := Lib.hid hb4; clear ho hb4 hk4 hk5 hr6))
        have HD4 : Hid (DiceAt z4 w.heap.size w.heap.size t k) := Lib.hid ((HQ.out.2.2.1.later HY3.out).below HB4.out HLT.out)
        have HW4 : Hid (Below w.heap.size w z4) := Lib.hid (HQ.out.2.2.2.1.trans ((HY3.out.mono HQ.out.2.2.2.1.size).trans (HB4.out.mono (Nat.le_of_lt HLT.out))))
        have HS4 : Hid (w1.heap.size ≤ z4.heap.size) := Lib.hid (Nat.le_trans hsz3 HB4.out.size)
        clear HY3 HOW hsz3 HB3 HB4
        refine (next_any w.heap.size w.heap.size t k 9 z4 HD4.out (by decide) (by decide)).mono ?_
        rintro e z5 ⟨rfl, hd5, hb5⟩
        have hv9 := diceV_bd t k 9 (by decide)
        obtain ⟨d, hdd⟩ : ∃ d : Nat, diceV t k 9 = (d : Int) := ⟨(diceV t k 9).toNat, by omega⟩
        rw [hdd] at hv9 ⊢
        have hd9 : d < 9 := by omega
        have HQ5 : Hid (State (r - 1) (l ++ [x]) (tm + d) ∧ z5.ownsRow w1.heap.size 33 13 (.slice A6 (m + 1) c6) (m + 1) (stmsC (l ++ [x])) ∧ DiceAt z5 w.heap.size w.heap.size t (diceK t k) ∧ Below w.heap.size w z5 ∧ w1.heap.size ≤ z5.heap.size) := Lib.hid
          ⟨HGO.out d hd9, by rw [stmsC_app, stmsC_single]; exact own_but HO4.out hb5 HLT.out, hd5, HW4.out.trans (hb5.below (Nat.le_refl _) HW4.out.size), Nat.le_trans HS4.out hb5.size⟩
        clear hd5 hb5 hdd HD4 HW4 HS4 HO4 HGO hv9
        go_wp2_with fail
        exact ⟨⟨r - 1, tm + d, m + 1, c6, diceK t k, A6, l ++ [x], rfl, by congr 1 <;> omega, by congr 1 <;> omega, HQ5⟩, by simp [intOf]; omega⟩
      · have hr0 : r = 0 := by omega
        subst hr0
        obtain ⟨t0, hgw⟩ := state_end HQ.out.1
        obtain ⟨gone, late, after, hen⟩ := hgw.ended
        have HG := Lib.hid hgw; have HE := Lib.hid hen
        obtain ⟨q, rfl⟩ : ∃ q, m = q + 1 := ⟨m - 1, by have := hgw.pos; have hx := Row.len (Row.of_own HQ.out.2.1).choose_spec.choose_spec.2; rw [stmsC_len] at hx; omega⟩
        obtain ⟨z, hz⟩ : ∃ z, z = lastS l := ⟨_, rfl⟩
        have hrow : SRow wr A (q + 1) cp l := by
          obtain ⟨A5, c5, e5, hr5⟩ := Row.of_own HQ.out.2.1
          injection e5 with e6 e7 e8
          subst e6 e8
          exact hr5
        have HML : Hid (l.length = q + 1) := Lib.hid hrow.len
        have hq4 : q ≤ 3 := by have := HG.out.len; have := HML.out; omega
        have hlq : l.getD q noStm = z := by rw [hz]; unfold lastS; rw [HML.out]; rfl
        have HZT : Hid (z.time = (t0 : Int)) := Lib.hid (by rw [hz]; exact HG.out.time)
        have HN9 : Hid (∀ y, Below w.heap.size w y → SRow y A (q + 1) cp l → ∀ v : Int, v < (t0 : Int) → Calls Tryd.prog 9 #[.int .i64 1, .slice A (q + 1) cp, .agg #[.int .i64 0, .int .i64 0, .string ⟨#[]⟩, .int .i64 v, .int .i64 10, .int .i64 0, .int .i64 0, .int .i64 0, .slice none 0 0, .slice none 0 0, .string ⟨#[]⟩, .int .i64 0, .string ⟨#[]⟩]] y (SaysL (.tuple #[.agg #[.int .i64 0, .int .i64 0, .string ⟨#[]⟩, .int .i64 0, .int .i64 0, .int .i64 0, .int .i64 0, .int .i64 0, .slice none 0 0, .slice none 0 0, .string ⟨#[]⟩, .int .i64 0, .string ⟨#[]⟩], .int .i64 9]) y)) := Lib.hid fun y hy hrow v hv => by
          have h := chainNext_any ((1 : Nat) : Int) A (q + 1) cp l (draft v 10 0) y hrow HG.out.whole.good (by omega) (HRR.out y hy) HG.out.whole.two (HG.out.whole.count (by have := HML.out; omega)) (draft_small _ _ _) ⟨rfl, rfl⟩
          rw [next_time HG.out.pos v 10 0 (by rw [HG.out.time]; exact hv)] at h
          exact h
        have HNG : Hid (∀ y, Below w.heap.size w y → SRow y A (q + 1) cp l → Calls Tryd.prog 9 #[.int .i64 1, .slice A (q + 1) cp, .agg #[.int .i64 0, .int .i64 0, .string ⟨#[]⟩, .int .i64 (t0 : Int), .int .i64 3, .int .i64 0, .int .i64 0, .int .i64 0, .slice none 0 0, .slice none 0 0, .string ⟨#[]⟩, .int .i64 0, .string ⟨#[]⟩]] y (SaysL (.tuple #[.agg #[.int .i64 gone.author, .int .i64 gone.number, .string gone.prev, .int .i64 gone.time, .int .i64 gone.kind, .int .i64 gone.a, .int .i64 gone.b, .int .i64 gone.c, .slice none 0 0, .slice none 0 0, .string gone.body, .int .i64 gone.key, .string gone.dig], .int .i64 0]) y)) := Lib.hid fun y hy hrow => by
          have h := chainNext_any ((1 : Nat) : Int) A (q + 1) cp l (draft (t0 : Int) 3 0) y hrow HG.out.whole.good (by omega) (HRR.out y hy) HG.out.whole.two (HG.out.whole.count (by have := HML.out; omega)) (draft_small _ _ _) ⟨rfl, rfl⟩
          rw [HE.out.next] at h
          exact h
        have HN5 : Hid (∀ y B m2 cp2, Below w.heap.size w y → SRow y B m2 cp2 (l ++ [gone]) → Calls Tryd.prog 9 #[.int .i64 1, .slice B m2 cp2, .agg #[.int .i64 0, .int .i64 0, .string ⟨#[]⟩, .int .i64 900, .int .i64 10, .int .i64 0, .int .i64 0, .int .i64 0, .slice none 0 0, .slice none 0 0, .string ⟨#[]⟩, .int .i64 0, .string ⟨#[]⟩]] y (SaysL (.tuple #[.agg #[.int .i64 0, .int .i64 0, .string ⟨#[]⟩, .int .i64 0, .int .i64 0, .int .i64 0, .int .i64 0, .int .i64 0, .slice none 0 0, .slice none 0 0, .string ⟨#[]⟩, .int .i64 0, .string ⟨#[]⟩], .int .i64 5]) y)) := Lib.hid fun y B m2 cp2 hy hrow => by
          have hl2 := hrow.len
          rw [List.length_append, HML.out] at hl2
          have hl3 : q + 1 + 1 = m2 := hl2
          have h := chainNext_any ((1 : Nat) : Int) B m2 cp2 (l ++ [gone]) (draft 900 10 0) y hrow HE.out.whole.good (by omega) (HRR.out y hy) HE.out.whole.two (HE.out.whole.count (by rw [List.length_append, HML.out]; show q + 1 + 1 < 200; omega)) (draft_small _ _ _) ⟨rfl, rfl⟩
          rw [HE.out.kind] at h
          exact h
        have HCL : Hid (∀ y B m2 cp2, Below w.heap.size w y → SRow y B m2 cp2 (l ++ [late]) → Calls Tryd.prog 14 #[.int .i64 1, .slice B m2 cp2] y fun e w' => ∃ A2 c2, e = .returned (.slice A2 (q + 1) c2) ∧ Below y.heap.size y w') := Lib.hid fun y B m2 cp2 hy hrow => by
          have hl2 := hrow.len
          rw [List.length_append, HML.out] at hl2
          have hl3 : q + 1 + 1 = m2 := hl2
          have h := counted_any ((1 : Nat) : Int) B m2 cp2 (l ++ [late]) y hrow HE.out.lateGood (by omega) (HRR.out y hy) HG.out.whole.two_late
          refine Calls.mono h ?_
          rintro e w' ⟨A2, m, c2, rfl, hr2, hb⟩
          have hm := hr2.len
          rw [HE.out.lateCount, HML.out] at hm
          subst hm
          exact ⟨A2, c2, rfl, hb⟩
        have HCA : Hid (∀ y B m2 cp2, Below w.heap.size w y → SRow y B m2 cp2 ((l ++ [gone]) ++ [after]) → Calls Tryd.prog 14 #[.int .i64 1, .slice B m2 cp2] y fun e w' => ∃ A2 c2, e = .returned (.slice A2 (q + 1 + 1) c2) ∧ Below y.heap.size y w') := Lib.hid fun y B m2 cp2 hy hrow => by
          have hl2 := hrow.len
          rw [List.length_append, List.length_append, HML.out] at hl2
          have hl3 : q + 1 + 1 + 1 = m2 := hl2
          have h := counted_any ((1 : Nat) : Int) B m2 cp2 ((l ++ [gone]) ++ [after]) y hrow HE.out.afterGood (by omega) (HRR.out y hy) HE.out.whole.two_late
          refine Calls.mono h ?_
          rintro e w' ⟨A2, m, c2, rfl, hr2, hb⟩
          have hm := hr2.len
          rw [HE.out.afterCount, List.length_append, HML.out] at hm
          have hm2 : m = q + 1 + 1 := hm.symm
          subst hm2
          exact ⟨A2, c2, rfl, hb⟩
        obtain ⟨b, off, hA, h0, h1, h2, h3, h4, h5, h6, h7, h8, h9, h10, h11, h12⟩ := SRow.cells hrow q (by omega)
        rw [hlq] at h0 h1 h2 h3 h4 h5 h6 h7 h10 h11 h12
        have hcap := hrow.cap
        subst hA
        have HROW := Lib.hid hrow
        have HBW := Lib.hid HQ.out.2.2.2.1
        have HZ := Lib.hid hz
        clear hrow hgw hen hlq hz HQ h1r
        go_wp2_with (refine wpList_store_new rfl 33 (.tmp 11) (.tmp 56) rfl 33 _ #[.int .i64 z.author, .int .i64 z.number, .string z.prev, .int .i64 z.time, .int .i64 z.kind, .int .i64 z.a, .int .i64 z.b, .int .i64 z.c, .slice none 0 0, .slice none 0 0, .string z.body, .int .i64 z.key, .string z.dig] rfl rfl (by kernel_rfl) rfl (by simp [Value.oneCell']) ?_)
        have HMO : Hid (∃ mo : Int, (0 ≤ mo ∧ mo < 40) ∧ ∀ y, Calls Tryd.prog 15 #[.int .i64 back, .int .i64 40] y fun e y' => e = .returned (.int .i64 mo) ∧ y = y') := Lib.hid ⟨modF back 40, modF_bd back 40 (by decide), fun y => mod_any back 40 y (by decide) (by decide)⟩
        obtain ⟨mo, hmo, hMO⟩ := HMO.out
        clear HMO
        have HMO := Lib.hid hMO
        clear hMO
        have hea : 50 ≤ t0 ∧ t0 ≤ 74 := ⟨HG.out.early.1, by have := HG.out.early.2; omega⟩
        have HB3 : Hid (Below w.heap.size w (wr.alloc (.cells #[.int .i64 z.author, .int .i64 z.number, .string z.prev, .int .i64 z.time, .int .i64 z.kind, .int .i64 z.a, .int .i64 z.b, .int .i64 z.c, .slice none 0 0, .slice none 0 0, .string z.body, .int .i64 z.key, .string z.dig] 33))) := Lib.hid (HBW.out.trans ((one_new wr _).mono HBW.out.size))
        have HR3 : Hid (SRow (wr.alloc (.cells #[.int .i64 z.author, .int .i64 z.number, .string z.prev, .int .i64 z.time, .int .i64 z.kind, .int .i64 z.a, .int .i64 z.b, .int .i64 z.c, .slice none 0 0, .slice none 0 0, .string z.body, .int .i64 z.key, .string z.dig] 33)) (some ⟨b, off, none⟩) (q + 1) cp l) := Lib.hid (HROW.out.later (one_new wr _))
        have XZ3 : Hid (BoxS (wr.alloc (.cells #[.int .i64 z.author, .int .i64 z.number, .string z.prev, .int .i64 z.time, .int .i64 z.kind, .int .i64 z.a, .int .i64 z.b, .int .i64 z.c, .slice none 0 0, .slice none 0 0, .string z.body, .int .i64 z.key, .string z.dig] 33)) wr.heap.size z) := Lib.hid (BoxS.new wr z)
        clear h0 h1 h2 h3 h4 h5 h6 h7 h8 h9 h10 h11 h12 HROW HBW hcap
        generalize wr.heap.size = BZ at XZ3 ⊢
        generalize wr.alloc (.cells #[.int .i64 z.author, .int .i64 z.number, .string z.prev, .int .i64 z.time, .int .i64 z.kind, .int .i64 z.a, .int .i64 z.b, .int .i64 z.c, .slice none 0 0, .slice none 0 0, .string z.body, .int .i64 z.key, .string z.dig] 33) = w3 at HB3 HR3 XZ3 ⊢
        obtain ⟨n0, hn0⟩ : ∃ n0, n0 = w3.drew.heap.size := ⟨_, rfl⟩
        rename_i K14 HK14
        refine wp_region_flow (by kernel_rfl) (Below n0) ?_
        simp only [Act.put]
        have HN0 := Lib.hid hn0
        clear hn0
        have HB0 := Lib.hid (HB3.out.trans ((Later.drew w3).mono HB3.out.size)); have HR0 := Lib.hid (HR3.out.later (Later.drew w3)); have XZ0 := Lib.hid (XZ3.out.later (Later.drew w3))
        clear HB3 HR3 XZ3
        generalize w3.drew = y0 at HB0 HR0 XZ0 HN0 ⊢
        have HS : Hid (Below y0.heap.size y0 y0) := Lib.hid (Below.refl _ _)
        have HEND : Hid (∀ (s0 : World) (v0 v1 v2 v3 v4 v5 v7 v8 v9 v10 v12 v14 v15 v16 v17 v18 v19 v20 v21 v22 v23 v24 v25 v26 v27 v28 v29 v30 v31 v32 v33 v34 v35 v36 v37 v38 v39 v40 v41 v42 v43 v44 v45 v46 v47 v48 v49 v50 v51 v52 v53 v54 v55 v56 v57 v58 v59 v60 v61 v62 v63 v64 v65 v66 v67 v68 v69 v70 v71 v72 v73 v74 v75 v76 v77 v78 v79 v80 v81 v82 v83 v84 v85 v86 v87 v88 v89 v90 v91 v92 v93 v94 v95 v96 v97 v98 v99 v100 v101 v102 v103 v104 v105 v106 v107 v108 v109 v110 v111 v112 v113 v114 v115 v116 v117 v118 v119 v120 v121 v122 v123 v124 v125 v126 v127 v128 v129 v130 v131 v132 v133 v134 v135 v136 v137 v138 v139 v140 v141 v142 v143 : Value), Below y0.heap.size y0 s0 → K14 { tmps := #[v0, v1, v2, v3, v4, v5, .slice (some ⟨b, off, none⟩) (q + 1) cp, v7, v8, v9, v10, .pointer (some ⟨BZ, 0, none⟩), v12, .int .i64 9, v14, v15, v16, v17, v18, v19, v20, v21, v22, v23, v24, v25, v26, v27, v28, v29, v30, v31, v32, v33, v34, v35, v36, v37, v38, v39, v40, v41, v42, v43, v44, v45, v46, v47, v48, v49, v50, v51, v52, v53, v54, v55, v56, v57, v58, v59, v60, v61, v62, v63, v64, v65, v66, v67, v68, v69, v70, v71, v72, v73, v74, v75, v76, v77, v78, v79, v80, v81, v82, v83, v84, v85, v86, v87, v88, v89, v90, v91, v92, v93, v94, v95, v96, v97, v98, v99, v100, v101, v102, v103, v104, v105, v106, v107, v108, v109, v110, v111, v112, v113, v114, v115, v116, v117, v118, v119, v120, v121, v122, v123, v124, v125, v126, v127, v128, v129, v130, v131, v132, v133, v134, v135, v136, v137, v138, v139, v140, v141, v142, v143], defers := [] } s0) := Lib.hid (by
          intro s0 v0 v1 v2 v3 v4 v5 v7 v8 v9 v10 v12 v14 v15 v16 v17 v18 v19 v20 v21 v22 v23 v24 v25 v26 v27 v28 v29 v30 v31 v32 v33 v34 v35 v36 v37 v38 v39 v40 v41 v42 v43 v44 v45 v46 v47 v48 v49 v50 v51 v52 v53 v54 v55 v56 v57 v58 v59 v60 v61 v62 v63 v64 v65 v66 v67 v68 v69 v70 v71 v72 v73 v74 v75 v76 v77 v78 v79 v80 v81 v82 v83 v84 v85 v86 v87 v88 v89 v90 v91 v92 v93 v94 v95 v96 v97 v98 v99 v100 v101 v102 v103 v104 v105 v106 v107 v108 v109 v110 v111 v112 v113 v114 v115 v116 v117 v118 v119 v120 v121 v122 v123 v124 v125 v126 v127 v128 v129 v130 v131 v132 v133 v134 v135 v136 v137 v138 v139 v140 v141 v142 v143 hy
          have HBy := Lib.hid (HB0.out.trans (hy.mono HB0.out.size)); have HRy := Lib.hid (HR0.out.later hy); have XZy := Lib.hid (XZ0.out.later hy)
          clear hy HB0 HR0 XZ0 HN0 HS HMO HN9
          refine HK14 _ _ ?_
          clear HK14
          have hz3 : s0.cell? ⟨BZ, 3, none⟩ = some (.int .i64 (t0 : Int)) := by
            have h := cell_of_row _ _ 3 _ _ _ XZy.out
            rw [h]
            show some (Value.int .i64 z.time) = _
            rw [HZT.out]
          go_wp2_with fail
          refine (HNG.out s0 HBy.out HRy.out).mono ?_
          rintro e s1 ⟨rfl, hb⟩
          have HB1 : Hid (Below w.heap.size w (s1.alloc (.cells #[.int .i64 gone.author, .int .i64 gone.number, .string gone.prev, .int .i64 gone.time, .int .i64 gone.kind, .int .i64 gone.a, .int .i64 gone.b, .int .i64 gone.c, .slice none 0 0, .slice none 0 0, .string gone.body, .int .i64 gone.key, .string gone.dig] 33))) := Lib.hid ((HBy.out.trans (hb.mono HBy.out.size)).trans ((one_new s1 _).mono (Nat.le_trans HBy.out.size hb.size)))
          have HR1 : Hid (SRow (s1.alloc (.cells #[.int .i64 gone.author, .int .i64 gone.number, .string gone.prev, .int .i64 gone.time, .int .i64 gone.kind, .int .i64 gone.a, .int .i64 gone.b, .int .i64 gone.c, .slice none 0 0, .slice none 0 0, .string gone.body, .int .i64 gone.key, .string gone.dig] 33)) (some ⟨b, off, none⟩) (q + 1) cp l) := Lib.hid ((HRy.out.later hb).later (one_new s1 _))
          have XZ1 : Hid (BoxS (s1.alloc (.cells #[.int .i64 gone.author, .int .i64 gone.number, .string gone.prev, .int .i64 gone.time, .int .i64 gone.kind, .int .i64 gone.a, .int .i64 gone.b, .int .i64 gone.c, .slice none 0 0, .slice none 0 0, .string gone.body, .int .i64 gone.key, .string gone.dig] 33)) BZ z) := Lib.hid ((XZy.out.later hb).later (one_new s1 _))
          have XG1 : Hid (BoxS (s1.alloc (.cells #[.int .i64 gone.author, .int .i64 gone.number, .string gone.prev, .int .i64 gone.time, .int .i64 gone.kind, .int .i64 gone.a, .int .i64 gone.b, .int .i64 gone.c, .slice none 0 0, .slice none 0 0, .string gone.body, .int .i64 gone.key, .string gone.dig] 33)) s1.heap.size gone) := Lib.hid (BoxS.new s1 gone)
          clear hb HBy HRy XZy hz3 HNG
          go_wp2_with (refine wpList_store_new rfl 33 (.tmp 14) (.tmp 75) rfl 33 _ #[.int .i64 gone.author, .int .i64 gone.number, .string gone.prev, .int .i64 gone.time, .int .i64 gone.kind, .int .i64 gone.a, .int .i64 gone.b, .int .i64 gone.c, .slice none 0 0, .slice none 0 0, .string gone.body, .int .i64 gone.key, .string gone.dig] rfl rfl (by kernel_rfl) rfl (by simp [Value.oneCell']) ?_)
          generalize s1.heap.size = BG at XG1 ⊢
          generalize s1.alloc (.cells #[.int .i64 gone.author, .int .i64 gone.number, .string gone.prev, .int .i64 gone.time, .int .i64 gone.kind, .int .i64 gone.a, .int .i64 gone.b, .int .i64 gone.c, .slice none 0 0, .slice none 0 0, .string gone.body, .int .i64 gone.key, .string gone.dig] 33) = s2 at HB1 HR1 XZ1 XG1 ⊢
          obtain ⟨n1, hn1⟩ : ∃ n1, n1 = s2.drew.heap.size := ⟨_, rfl⟩
          rename_i K16 HK16
          refine wp_region_flow (by kernel_rfl) (Below n1) ?_
          try simp only [Act.put]
          have HN0 := Lib.hid hn1
          clear hn1
          have HB0 := Lib.hid (HB1.out.trans ((Later.drew s2).mono HB1.out.size)); have HR0 := Lib.hid (HR1.out.later (Later.drew s2)); have XZ0 := Lib.hid (XZ1.out.later (Later.drew s2)); have XG0 := Lib.hid (XG1.out.later (Later.drew s2))
          clear HB1 HR1 XZ1 XG1
          generalize s2.drew = z0 at HB0 HR0 XZ0 XG0 HN0 ⊢
          have HS : Hid (Below z0.heap.size z0 z0) := Lib.hid (Below.refl _ _)
          have HEND : Hid (∀ (s0 : World) (v0 v1 v2 v3 v4 v5 v7 v8 v9 v10 v12 v16 v18 v19 v20 v21 v22 v23 v24 v25 v26 v27 v28 v29 v30 v31 v32 v33 v34 v35 v36 v37 v38 v39 v40 v41 v42 v43 v44 v45 v46 v47 v48 v49 v50 v51 v52 v53 v54 v55 v56 v57 v58 v59 v60 v61 v62 v63 v64 v65 v66 v67 v68 v69 v70 v71 v72 v73 v74 v75 v76 v77 v78 v79 v80 v81 v82 v83 v84 v85 v86 v87 v88 v89 v90 v91 v92 v93 v94 v95 v96 v97 v98 v99 v100 v101 v102 v103 v104 v105 v106 v107 v108 v109 v110 v111 v112 v113 v114 v115 v116 v117 v118 v119 v120 v121 v122 v123 v124 v125 v126 v127 v128 v129 v130 v131 v132 v133 v134 v135 v136 v137 v138 v139 v140 v141 v142 v143 : Value), Below z0.heap.size z0 s0 → K16 { tmps := #[v0, v1, v2, v3, v4, v5, .slice (some ⟨b, off, none⟩) (q + 1) cp, v7, v8, v9, v10, .pointer (some ⟨BZ, 0, none⟩), v12, .int .i64 9, .pointer (some ⟨BG, 0, none⟩), .int .i64 0, v16, .int .i64 5, v18, v19, v20, v21, v22, v23, v24, v25, v26, v27, v28, v29, v30, v31, v32, v33, v34, v35, v36, v37, v38, v39, v40, v41, v42, v43, v44, v45, v46, v47, v48, v49, v50, v51, v52, v53, v54, v55, v56, v57, v58, v59, v60, v61, v62, v63, v64, v65, v66, v67, v68, v69, v70, v71, v72, v73, v74, v75, v76, v77, v78, v79, v80, v81, v82, v83, v84, v85, v86, v87, v88, v89, v90, v91, v92, v93, v94, v95, v96, v97, v98, v99, v100, v101, v102, v103, v104, v105, v106, v107, v108, v109, v110, v111, v112, v113, v114, v115, v116, v117, v118, v119, v120, v121, v122, v123, v124, v125, v126, v127, v128, v129, v130, v131, v132, v133, v134, v135, v136, v137, v138, v139, v140, v141, v142, v143], defers := [] } s0) := Lib.hid (by
            intro s0 v0 v1 v2 v3 v4 v5 v7 v8 v9 v10 v12 v16 v18 v19 v20 v21 v22 v23 v24 v25 v26 v27 v28 v29 v30 v31 v32 v33 v34 v35 v36 v37 v38 v39 v40 v41 v42 v43 v44 v45 v46 v47 v48 v49 v50 v51 v52 v53 v54 v55 v56 v57 v58 v59 v60 v61 v62 v63 v64 v65 v66 v67 v68 v69 v70 v71 v72 v73 v74 v75 v76 v77 v78 v79 v80 v81 v82 v83 v84 v85 v86 v87 v88 v89 v90 v91 v92 v93 v94 v95 v96 v97 v98 v99 v100 v101 v102 v103 v104 v105 v106 v107 v108 v109 v110 v111 v112 v113 v114 v115 v116 v117 v118 v119 v120 v121 v122 v123 v124 v125 v126 v127 v128 v129 v130 v131 v132 v133 v134 v135 v136 v137 v138 v139 v140 v141 v142 v143 hy
            have HBy := Lib.hid (HB0.out.trans (hy.mono HB0.out.size)); have HRy := Lib.hid (HR0.out.later hy); have XZy := Lib.hid (XZ0.out.later hy); have XGy := Lib.hid (XG0.out.later hy)
            clear hy HB0 HR0 XZ0 XG0 HN0 HS HN5
            refine HK16 _ _ ?_
            clear HK16
            have HZD : Hid (z.dig.size = 32) := Lib.hid (by
              obtain ⟨s, seen, hd, -, -⟩ := HG.out.digs
              rw [HZ.out]; exact hd.size)
            have HGD : Hid (gone.dig.size = 32) := Lib.hid (by rw [HE.out.goneIs]; exact digS_size _)
            have HSL : Hid (∀ y, Below w.heap.size w y → Calls Tryd.prog 17 #[.agg #[.int .i64 1, .int .i64 ((q : Int) + 1), .string z.dig, .int .i64 ((t0 : Int) - 1), .int .i64 10, .int .i64 0, .int .i64 0, .int .i64 0, .slice none 0 0, .slice none 0 0, .string ⟨#[]⟩, .int .i64 0, .string ⟨#[]⟩]] y (SaysL (.agg #[.int .i64 late.author, .int .i64 late.number, .string late.prev, .int .i64 late.time, .int .i64 late.kind, .int .i64 late.a, .int .i64 late.b, .int .i64 late.c, .slice none 0 0, .slice none 0 0, .string late.body, .int .i64 late.key, .string late.dig]) y)) := Lib.hid fun y hy => by
              have es : (⟨1, (q : Int) + 1, z.dig, (t0 : Int) - 1, 10, 0, 0, 0, [], [], ⟨#[]⟩, 0, ⟨#[]⟩⟩ : Stm) = F.bare 1 (q + 1) z.dig (t0 - 1) 10 0 := by
                unfold F.bare
                rw [show ((t0 - 1 : Nat) : Int) = (t0 : Int) - 1 by omega]
                rfl
              have el : sealOf (⟨1, (q : Int) + 1, z.dig, (t0 : Int) - 1, 10, 0, 0, 0, [], [], ⟨#[]⟩, 0, ⟨#[]⟩⟩ : Stm) = late := by
                rw [es, HE.out.lateIs, HML.out, ← HZ.out]
                rfl
              have h := sealBare_any ⟨1, (q : Int) + 1, z.dig, (t0 : Int) - 1, 10, 0, 0, 0, [], [], ⟨#[]⟩, 0, ⟨#[]⟩⟩ y ⟨by show z.dig.size ≤ 1000; rw [HZD.out]; omega, Nat.zero_le _, Nat.zero_le _, Nat.zero_le _, Nat.zero_le _, Nat.zero_le _⟩ ⟨rfl, rfl⟩
              rw [el] at h
              exact h
            have HSF : Hid (∀ y, Below w.heap.size w y → Calls Tryd.prog 17 #[.agg #[.int .i64 1, .int .i64 ((q : Int) + 1 + 1), .string gone.dig, .int .i64 900, .int .i64 10, .int .i64 0, .int .i64 0, .int .i64 0, .slice none 0 0, .slice none 0 0, .string ⟨#[]⟩, .int .i64 0, .string ⟨#[]⟩]] y (SaysL (.agg #[.int .i64 after.author, .int .i64 after.number, .string after.prev, .int .i64 after.time, .int .i64 after.kind, .int .i64 after.a, .int .i64 after.b, .int .i64 after.c, .slice none 0 0, .slice none 0 0, .string after.body, .int .i64 after.key, .string after.dig]) y)) := Lib.hid fun y hy => by
              have el : sealOf (⟨1, (q : Int) + 1 + 1, gone.dig, 900, 10, 0, 0, 0, [], [], ⟨#[]⟩, 0, ⟨#[]⟩⟩ : Stm) = after := by
                rw [HE.out.afterIs, HML.out]
                rfl
              have h := sealBare_any ⟨1, (q : Int) + 1 + 1, gone.dig, 900, 10, 0, 0, 0, [], [], ⟨#[]⟩, 0, ⟨#[]⟩⟩ y ⟨by show gone.dig.size ≤ 1000; rw [HGD.out]; omega, Nat.zero_le _, Nat.zero_le _, Nat.zero_le _, Nat.zero_le _, Nat.zero_le _⟩ ⟨rfl, rfl⟩
              rw [el] at h
              exact h
            have hz3 : s0.cell? ⟨BZ, 3, none⟩ = some (.int .i64 (t0 : Int)) := by
              have h := cell_of_row _ _ 3 _ _ _ XZy.out
              rw [h]
              show some (Value.int .i64 z.time) = _
              rw [HZT.out]
            have hz12 : s0.cell? ⟨BZ, 12, none⟩ = some (.string z.dig) := (cell_of_row _ _ 12 _ _ _ XZy.out).trans rfl
            go_wp2_with fail
            refine (HSL.out s0 HBy.out).mono ?_
            rintro e s3 ⟨rfl, hb⟩
            have HB3 := Lib.hid (HBy.out.trans (hb.mono HBy.out.size)); have HR3 := Lib.hid (HRy.out.later hb); have XG3 := Lib.hid (XGy.out.later hb)
            have hg12 : (s3.alloc (.cells #[.int .i64 late.author, .int .i64 late.number, .string late.prev, .int .i64 late.time, .int .i64 late.kind, .int .i64 late.a, .int .i64 late.b, .int .i64 late.c, .slice none 0 0, .slice none 0 0, .string late.body, .int .i64 late.key, .string late.dig] 33)).cell? ⟨BG, 12, none⟩ = some (.string gone.dig) := (cell_of_row _ _ 12 _ _ _ (XG3.out.later (one_new s3 _))).trans rfl
            clear hb HBy HRy XZy XGy hz3 hz12 HSL
            go_wp2_with (refine wpList_store_new rfl 33 (.tmp 18) (.tmp 96) rfl 33 _ #[.int .i64 late.author, .int .i64 late.number, .string late.prev, .int .i64 late.time, .int .i64 late.kind, .int .i64 late.a, .int .i64 late.b, .int .i64 late.c, .slice none 0 0, .slice none 0 0, .string late.body, .int .i64 late.key, .string late.dig] rfl rfl (by kernel_rfl) rfl (by simp [Value.oneCell']) ?_)
            refine (HSF.out _ (HB3.out.trans ((one_new s3 _).mono HB3.out.size))).mono ?_
            rintro e s4 ⟨rfl, hb⟩
            have hb4 : Below s3.heap.size s3 s4 := (one_new s3 _).trans (hb.mono (by simp))
            have HB4 : Hid (Below w.heap.size w (s4.alloc (.cells #[.int .i64 after.author, .int .i64 after.number, .string after.prev, .int .i64 after.time, .int .i64 after.kind, .int .i64 after.a, .int .i64 after.b, .int .i64 after.c, .slice none 0 0, .slice none 0 0, .string after.body, .int .i64 after.key, .string after.dig] 33))) := Lib.hid ((HB3.out.trans (hb4.mono HB3.out.size)).trans ((one_new s4 _).mono (Nat.le_trans HB3.out.size hb4.size)))
            have HR4 : Hid (SRow (s4.alloc (.cells #[.int .i64 after.author, .int .i64 after.number, .string after.prev, .int .i64 after.time, .int .i64 after.kind, .int .i64 after.a, .int .i64 after.b, .int .i64 after.c, .slice none 0 0, .slice none 0 0, .string after.body, .int .i64 after.key, .string after.dig] 33)) (some ⟨b, off, none⟩) (q + 1) cp l) := Lib.hid ((HR3.out.later hb4).later (one_new s4 _))
            have XG4 : Hid (BoxS (s4.alloc (.cells #[.int .i64 after.author, .int .i64 after.number, .string after.prev, .int .i64 after.time, .int .i64 after.kind, .int .i64 after.a, .int .i64 after.b, .int .i64 after.c, .slice none 0 0, .slice none 0 0, .string after.body, .int .i64 after.key, .string after.dig] 33)) BG gone) := Lib.hid ((XG3.out.later hb4).later (one_new s4 _))
            have XL4 : Hid (BoxS (s4.alloc (.cells #[.int .i64 after.author, .int .i64 after.number, .string after.prev, .int .i64 after.time, .int .i64 after.kind, .int .i64 after.a, .int .i64 after.b, .int .i64 after.c, .slice none 0 0, .slice none 0 0, .string after.body, .int .i64 after.key, .string after.dig] 33)) s3.heap.size late) := Lib.hid (((BoxS.new s3 late).later hb).later (one_new s4 _))
            have XA4 : Hid (BoxS (s4.alloc (.cells #[.int .i64 after.author, .int .i64 after.number, .string after.prev, .int .i64 after.time, .int .i64 after.kind, .int .i64 after.a, .int .i64 after.b, .int .i64 after.c, .slice none 0 0, .slice none 0 0, .string after.body, .int .i64 after.key, .string after.dig] 33)) s4.heap.size after) := Lib.hid (BoxS.new s4 after)
            clear hb hb4 hg12 HB3 HR3 XG3 HSF
            go_wp2_with (refine wpList_store_new rfl 33 (.tmp 19) (.tmp 104) rfl 33 _ #[.int .i64 after.author, .int .i64 after.number, .string after.prev, .int .i64 after.time, .int .i64 after.kind, .int .i64 after.a, .int .i64 after.b, .int .i64 after.c, .slice none 0 0, .slice none 0 0, .string after.body, .int .i64 after.key, .string after.dig] rfl rfl (by kernel_rfl) rfl (by simp [Value.oneCell']) ?_)
            generalize s3.heap.size = BL at XL4 ⊢
            generalize s4.heap.size = BA at XA4 ⊢
            generalize s4.alloc (.cells #[.int .i64 after.author, .int .i64 after.number, .string after.prev, .int .i64 after.time, .int .i64 after.kind, .int .i64 after.a, .int .i64 after.b, .int .i64 after.c, .slice none 0 0, .slice none 0 0, .string after.body, .int .i64 after.key, .string after.dig] 33) = s5 at HB4 HR4 XG4 XL4 XA4 ⊢
            obtain ⟨n2, hn2⟩ : ∃ n2, n2 = s5.drew.heap.size := ⟨_, rfl⟩
            rename_i K19 HK19
            refine wp_region_flow (by kernel_rfl) (Below n2) ?_
            try simp only [Act.put]
            have HN0 := Lib.hid hn2
            clear hn2
            have HB0 := Lib.hid (HB4.out.trans ((Later.drew s5).mono HB4.out.size)); have HR0 := Lib.hid (HR4.out.later (Later.drew s5)); have XG0 := Lib.hid (XG4.out.later (Later.drew s5)); have XL0 := Lib.hid (XL4.out.later (Later.drew s5)); have XA0 := Lib.hid (XA4.out.later (Later.drew s5))
            clear HB4 HR4 XG4 XL4 XA4
            generalize s5.drew = p0 at HB0 HR0 XG0 XL0 XA0 HN0 ⊢
            have HS : Hid (Below p0.heap.size p0 p0) := Lib.hid (Below.refl _ _)
            refine flow_one (F := Below n2) (fun _ _ _ h k => Below.trans h k) (fun _ => Below.refl _ _) 0 (by kernel_rfl) (by decide) ?_
            simp only [pick, List.getD_cons_zero]
            go_wp2_with fail
            refine (HSA.out p0 HB0.out).mono ?_
            rintro e y1 ⟨rfl, hb⟩
            have hf : Below n2 _ _ := hb.mono (by have h1 := HN0.out; have h2 := HS.out.size; omega)
            replace HS := Lib.hid (HS.out.trans (hb.mono HS.out.size))
            clear hb
            go_wp2_with fail
            refine pieceEnd_normal ⟨hf, ?_⟩
            clear hf
            have hcg : ∀ x, BoxS (fut (Below n2) y1 x) BL late := fun x => XL0.out.later (HS.out.trans ((fut_ok (F := Below n2) (fun _ => Below.refl _ _) y1 x).mono (Nat.le_of_eq HN0.out.symm)))
            have hl0 : ∀ x, (fut (Below n2) y1 x).cell? ⟨BL, 0, none⟩ = some (.int .i64 late.author) := fun x => (cell_of_row _ _ 0 _ _ _ (hcg x)).trans rfl
            have hl1 : ∀ x, (fut (Below n2) y1 x).cell? ⟨BL, 1, none⟩ = some (.int .i64 late.number) := fun x => (cell_of_row _ _ 1 _ _ _ (hcg x)).trans rfl
            have hl2 : ∀ x, (fut (Below n2) y1 x).cell? ⟨BL, 2, none⟩ = some (.string late.prev) := fun x => (cell_of_row _ _ 2 _ _ _ (hcg x)).trans rfl
            have hl3 : ∀ x, (fut (Below n2) y1 x).cell? ⟨BL, 3, none⟩ = some (.int .i64 late.time) := fun x => (cell_of_row _ _ 3 _ _ _ (hcg x)).trans rfl
            have hl4 : ∀ x, (fut (Below n2) y1 x).cell? ⟨BL, 4, none⟩ = some (.int .i64 late.kind) := fun x => (cell_of_row _ _ 4 _ _ _ (hcg x)).trans rfl
            have hl5 : ∀ x, (fut (Below n2) y1 x).cell? ⟨BL, 5, none⟩ = some (.int .i64 late.a) := fun x => (cell_of_row _ _ 5 _ _ _ (hcg x)).trans rfl
            have hl6 : ∀ x, (fut (Below n2) y1 x).cell? ⟨BL, 6, none⟩ = some (.int .i64 late.b) := fun x => (cell_of_row _ _ 6 _ _ _ (hcg x)).trans rfl
            have hl7 : ∀ x, (fut (Below n2) y1 x).cell? ⟨BL, 7, none⟩ = some (.int .i64 late.c) := fun x => (cell_of_row _ _ 7 _ _ _ (hcg x)).trans rfl
            have hl8 : ∀ x, (fut (Below n2) y1 x).cell? ⟨BL, 8, none⟩ = some (.slice none 0 0) := fun x => (cell_of_row _ _ 8 _ _ _ (hcg x)).trans rfl
            have hl9 : ∀ x, (fut (Below n2) y1 x).cell? ⟨BL, 9, none⟩ = some (.slice none 0 0) := fun x => (cell_of_row _ _ 9 _ _ _ (hcg x)).trans rfl
            have hl10 : ∀ x, (fut (Below n2) y1 x).cell? ⟨BL, 10, none⟩ = some (.string late.body) := fun x => (cell_of_row _ _ 10 _ _ _ (hcg x)).trans rfl
            have hl11 : ∀ x, (fut (Below n2) y1 x).cell? ⟨BL, 11, none⟩ = some (.int .i64 late.key) := fun x => (cell_of_row _ _ 11 _ _ _ (hcg x)).trans rfl
            have hl12 : ∀ x, (fut (Below n2) y1 x).cell? ⟨BL, 12, none⟩ = some (.string late.dig) := fun x => (cell_of_row _ _ 12 _ _ _ (hcg x)).trans rfl
            clear hcg
            refine flow_reads (F := Below n2) (fun _ => Below.refl _ _) (by kernel_rfl) [1, 2, 3, 4, 5, 6, 7, 8, 9, 10, 11, 12, 13, 14, 16, 21, 22] (fuel := 22) (by kernel_rfl) ?_
            simp only [List.map_cons, List.map_nil, pick, List.getD_cons_zero, List.getD_cons_succ]
            repeat (go_big_quiet_step (fail))
            refine wpQuiet_nil ?_
            clear hl0 hl1 hl2 hl3 hl4 hl5 hl6 hl7 hl8 hl9 hl10 hl11 hl12
            refine flow_two (F := Below n2) (fun _ _ _ h k => Below.trans h k) (fun _ => Below.refl _ _) 15 17 (by kernel_rfl) (by decide) (by decide) ?_ ?_ <;> simp only [pick, List.getD_cons_zero, List.getD_cons_succ]
            · go_wp2_with (at_builtin; go_must (refine wpList_appG y1 rfl (.const (.slice none 0 0)) (.tmp 119) 27 27 33 rfl y1.heap.size Tryd.underlying27 stm_info rfl _ 0 [] (World.ownsRow_nil _ _ _ _) rfl (.slice (some ⟨b, off, none⟩) (q + 1) cp) (q + 1) (stmsC l) (Row.src (HR0.out.later HS.out) Tryd.underlying27 (stmsC_one _)) rfl (by unfold maxLen; omega) (by omega) (Nat.le_refl _) ?_); intro v2 y2 ho hb; rw [Nat.zero_add, List.nil_append] at ho; obtain ⟨A2, c2, hv2, hr2⟩ := Row.of_own ho; subst hv2; have HOx := Lib.hid ho; have HBx := Lib.hid hb; clear ho hb hr2)
              refine pieceEnd_normal ⟨HBx.out.mono (by have h1 := HN0.out; have h2 := HS.out.size; omega), ?_⟩
              obtain ⟨B1, hB1⟩ : ∃ B1, B1 = y1.heap.size := ⟨_, rfl⟩
              have XA : Hid (y2.ownsRow B1 33 13 (.slice A2 (q + 1) c2) (q + 1) (stmsC l)) := Lib.hid (by rw [hB1]; exact HOx.out)
              have HBA : Hid (p0.heap.size ≤ B1) := Lib.hid (by rw [hB1]; exact HS.out.size)
              have HBL : Hid (B1 ≤ y2.heap.size) := Lib.hid (by rw [hB1]; exact HBx.out.size)
              replace HS := Lib.hid (HS.out.trans (HBx.out.mono HS.out.size))
              clear HOx HBx hB1
              refine flow_one (F := Below n2) (fun _ _ _ h k => Below.trans h k) (fun _ => Below.refl _ _) 17 (by kernel_rfl) (by decide) ?_
              simp only [pick, List.getD_cons_zero, List.getD_cons_succ]
              go_wp2_with fail
              refine pieceEnd_normal ⟨(one_new y2 _).mono (by have h1 := HN0.out; have h2 := HS.out.size; omega), ?_⟩
              obtain ⟨BT, hBB⟩ : ∃ B, B = y2.heap.size := ⟨_, rfl⟩
              replace XA := Lib.hid (own_below XA.out (one_new y2 (.cells #[.int .i64 late.author, .int .i64 late.number, .string late.prev, .int .i64 late.time, .int .i64 late.kind, .int .i64 late.a, .int .i64 late.b, .int .i64 late.c, .slice none 0 0, .slice none 0 0, .string late.body, .int .i64 late.key, .string late.dig] 33)) (own_lt XA.out)); replace HBL := Lib.hid (Nat.le_trans HBL.out (one_new y2 (.cells #[.int .i64 late.author, .int .i64 late.number, .string late.prev, .int .i64 late.time, .int .i64 late.kind, .int .i64 late.a, .int .i64 late.b, .int .i64 late.c, .slice none 0 0, .slice none 0 0, .string late.body, .int .i64 late.key, .string late.dig] 33)).size)
              have XT : Hid ((y2.alloc (.cells #[.int .i64 late.author, .int .i64 late.number, .string late.prev, .int .i64 late.time, .int .i64 late.kind, .int .i64 late.a, .int .i64 late.b, .int .i64 late.c, .slice none 0 0, .slice none 0 0, .string late.body, .int .i64 late.key, .string late.dig] 33)).heap[BT]? = some (.cells #[.int .i64 late.author, .int .i64 late.number, .string late.prev, .int .i64 late.time, .int .i64 late.kind, .int .i64 late.a, .int .i64 late.b, .int .i64 late.c, .slice none 0 0, .slice none 0 0, .string late.body, .int .i64 late.key, .string late.dig] 33 (0, 0))) := Lib.hid (by rw [hBB]; exact heap_alloc_new _ _)
              replace HS : Hid (Below p0.heap.size p0 (y2.alloc (.cells #[.int .i64 late.author, .int .i64 late.number, .string late.prev, .int .i64 late.time, .int .i64 late.kind, .int .i64 late.a, .int .i64 late.b, .int .i64 late.c, .slice none 0 0, .slice none 0 0, .string late.body, .int .i64 late.key, .string late.dig] 33))) := Lib.hid (HS.out.trans ((one_new y2 _).mono HS.out.size))
              try rw [← hBB]
              clear hBB
              generalize y2.alloc (.cells #[.int .i64 late.author, .int .i64 late.number, .string late.prev, .int .i64 late.time, .int .i64 late.kind, .int .i64 late.a, .int .i64 late.b, .int .i64 late.c, .slice none 0 0, .slice none 0 0, .string late.body, .int .i64 late.key, .string late.dig] 33) = y3 at HS XT XA HBL ⊢
              refine flow_one (F := Below n2) (fun _ _ _ h k => Below.trans h k) (fun _ => Below.refl _ _) 18 (by kernel_rfl) (by decide) ?_
              simp only [pick, List.getD_cons_zero, List.getD_cons_succ]
              go_wp2_with (at_builtin; go_must (refine wpList_appG y3 rfl (.tmp 120) (.tmp 122) 27 27 33 rfl B1 Tryd.underlying27 stm_info rfl _ (q + 1) (stmsC l) XA.out rfl (.slice (some ⟨BT, 0, none⟩) 1 1) 1 (stmsC [late]) (Row.src (show SRow y3 (some ⟨BT, 0, none⟩) 1 1 [late] from Row.of_block XT.out rfl) Tryd.underlying27 (stmsC_one _)) rfl (by unfold maxLen; omega) (by omega) HBL.out ?_); intro v4 y4 ho hb; rw [← stmsC_app] at ho; obtain ⟨A4, c4, hv4, hr4⟩ := Row.of_own ho; subst hv4; have XN : Hid (SRow y4 A4 (q + 1 + 1) c4 (l ++ [late])) := Lib.hid (hr4); have HBx := Lib.hid hb; clear ho hb hr4)
              refine pieceEnd_normal ⟨HBx.out.mono (by have h1 := HN0.out; have h2 := HBA.out; omega), ?_⟩
              replace HS := Lib.hid (HS.out.trans (HBx.out.mono HBA.out))
              clear HBx XA XT HBA HBL
              refine flow_one (F := Below n2) (fun _ _ _ h k => Below.trans h k) (fun _ => Below.refl _ _) 19 (by kernel_rfl) (by decide) ?_
              simp only [pick, List.getD_cons_zero, List.getD_cons_succ]
              go_wp2_with fail
              refine (HCL.out y4 A4 (q + 1 + 1) c4 (HB0.out.trans (HS.out.mono HB0.out.size)) XN.out).mono ?_
              rintro e y5 ⟨A5, c5, rfl, hb⟩
              have hf : Below n2 _ _ := hb.mono (by have h1 := HN0.out; have h2 := HS.out.size; omega)
              replace HS := Lib.hid (HS.out.trans (hb.mono HS.out.size))
              clear hb
              go_wp2_with fail
              refine pieceEnd_normal ⟨hf, ?_⟩
              clear hf
              clear XN
              refine flow_reads (F := Below n2) (fun _ => Below.refl _ _) (by kernel_rfl) [20, 23, 24, 25, 26, 34, 35] (fuel := 11) (by kernel_rfl) ?_
              simp only [List.map_cons, List.map_nil, pick, List.getD_cons_zero, List.getD_cons_succ]
              repeat (go_big_quiet_step (fail))
              refine wpQuiet_nil ?_
              refine flow_reads (F := Below n2) (fun _ => Below.refl _ _) (by kernel_rfl) [36] (fuel := 10) (by kernel_rfl) ?_
              simp only [List.map_cons, List.map_nil, pick, List.getD_cons_zero, List.getD_cons_succ]
              repeat (go_big_quiet_step (fail))
              refine wpQuiet_nil ?_
              have hcg : ∀ x, BoxS (fut (Below n2) y5 x) BG gone := fun x => XG0.out.later (HS.out.trans ((fut_ok (F := Below n2) (fun _ => Below.refl _ _) y5 x).mono (Nat.le_of_eq HN0.out.symm)))
              have ha0 : ∀ x, (fut (Below n2) y5 x).cell? ⟨BG, 0, none⟩ = some (.int .i64 gone.author) := fun x => (cell_of_row _ _ 0 _ _ _ (hcg x)).trans rfl
              have ha1 : ∀ x, (fut (Below n2) y5 x).cell? ⟨BG, 1, none⟩ = some (.int .i64 gone.number) := fun x => (cell_of_row _ _ 1 _ _ _ (hcg x)).trans rfl
              have ha2 : ∀ x, (fut (Below n2) y5 x).cell? ⟨BG, 2, none⟩ = some (.string gone.prev) := fun x => (cell_of_row _ _ 2 _ _ _ (hcg x)).trans rfl
              have ha3 : ∀ x, (fut (Below n2) y5 x).cell? ⟨BG, 3, none⟩ = some (.int .i64 gone.time) := fun x => (cell_of_row _ _ 3 _ _ _ (hcg x)).trans rfl
              have ha4 : ∀ x, (fut (Below n2) y5 x).cell? ⟨BG, 4, none⟩ = some (.int .i64 gone.kind) := fun x => (cell_of_row _ _ 4 _ _ _ (hcg x)).trans rfl
              have ha5 : ∀ x, (fut (Below n2) y5 x).cell? ⟨BG, 5, none⟩ = some (.int .i64 gone.a) := fun x => (cell_of_row _ _ 5 _ _ _ (hcg x)).trans rfl
              have ha6 : ∀ x, (fut (Below n2) y5 x).cell? ⟨BG, 6, none⟩ = some (.int .i64 gone.b) := fun x => (cell_of_row _ _ 6 _ _ _ (hcg x)).trans rfl
              have ha7 : ∀ x, (fut (Below n2) y5 x).cell? ⟨BG, 7, none⟩ = some (.int .i64 gone.c) := fun x => (cell_of_row _ _ 7 _ _ _ (hcg x)).trans rfl
              have ha8 : ∀ x, (fut (Below n2) y5 x).cell? ⟨BG, 8, none⟩ = some (.slice none 0 0) := fun x => (cell_of_row _ _ 8 _ _ _ (hcg x)).trans rfl
              have ha9 : ∀ x, (fut (Below n2) y5 x).cell? ⟨BG, 9, none⟩ = some (.slice none 0 0) := fun x => (cell_of_row _ _ 9 _ _ _ (hcg x)).trans rfl
              have ha10 : ∀ x, (fut (Below n2) y5 x).cell? ⟨BG, 10, none⟩ = some (.string gone.body) := fun x => (cell_of_row _ _ 10 _ _ _ (hcg x)).trans rfl
              have ha11 : ∀ x, (fut (Below n2) y5 x).cell? ⟨BG, 11, none⟩ = some (.int .i64 gone.key) := fun x => (cell_of_row _ _ 11 _ _ _ (hcg x)).trans rfl
              have ha12 : ∀ x, (fut (Below n2) y5 x).cell? ⟨BG, 12, none⟩ = some (.string gone.dig) := fun x => (cell_of_row _ _ 12 _ _ _ (hcg x)).trans rfl
              clear hcg
              refine flow_reads (F := Below n2) (fun _ => Below.refl _ _) (by kernel_rfl) [28] (fuel := 9) (by kernel_rfl) ?_
              simp only [List.map_cons, List.map_nil, pick, List.getD_cons_zero, List.getD_cons_succ]
              repeat (go_big_quiet_step (fail))
              refine wpQuiet_nil ?_
              clear ha0 ha1 ha2 ha3 ha4 ha5 ha6 ha7 ha8 ha9 ha10 ha11 ha12
              have hcg : ∀ x, BoxS (fut (Below n2) y5 x) BA after := fun x => XA0.out.later (HS.out.trans ((fut_ok (F := Below n2) (fun _ => Below.refl _ _) y5 x).mono (Nat.le_of_eq HN0.out.symm)))
              have hb0 : ∀ x, (fut (Below n2) y5 x).cell? ⟨BA, 0, none⟩ = some (.int .i64 after.author) := fun x => (cell_of_row _ _ 0 _ _ _ (hcg x)).trans rfl
              have hb1 : ∀ x, (fut (Below n2) y5 x).cell? ⟨BA, 1, none⟩ = some (.int .i64 after.number) := fun x => (cell_of_row _ _ 1 _ _ _ (hcg x)).trans rfl
              have hb2 : ∀ x, (fut (Below n2) y5 x).cell? ⟨BA, 2, none⟩ = some (.string after.prev) := fun x => (cell_of_row _ _ 2 _ _ _ (hcg x)).trans rfl
              have hb3 : ∀ x, (fut (Below n2) y5 x).cell? ⟨BA, 3, none⟩ = some (.int .i64 after.time) := fun x => (cell_of_row _ _ 3 _ _ _ (hcg x)).trans rfl
              have hb4 : ∀ x, (fut (Below n2) y5 x).cell? ⟨BA, 4, none⟩ = some (.int .i64 after.kind) := fun x => (cell_of_row _ _ 4 _ _ _ (hcg x)).trans rfl
              have hb5 : ∀ x, (fut (Below n2) y5 x).cell? ⟨BA, 5, none⟩ = some (.int .i64 after.a) := fun x => (cell_of_row _ _ 5 _ _ _ (hcg x)).trans rfl
              have hb6 : ∀ x, (fut (Below n2) y5 x).cell? ⟨BA, 6, none⟩ = some (.int .i64 after.b) := fun x => (cell_of_row _ _ 6 _ _ _ (hcg x)).trans rfl
              have hb7 : ∀ x, (fut (Below n2) y5 x).cell? ⟨BA, 7, none⟩ = some (.int .i64 after.c) := fun x => (cell_of_row _ _ 7 _ _ _ (hcg x)).trans rfl
              have hb8 : ∀ x, (fut (Below n2) y5 x).cell? ⟨BA, 8, none⟩ = some (.slice none 0 0) := fun x => (cell_of_row _ _ 8 _ _ _ (hcg x)).trans rfl
              have hb9 : ∀ x, (fut (Below n2) y5 x).cell? ⟨BA, 9, none⟩ = some (.slice none 0 0) := fun x => (cell_of_row _ _ 9 _ _ _ (hcg x)).trans rfl
              have hb10 : ∀ x, (fut (Below n2) y5 x).cell? ⟨BA, 10, none⟩ = some (.string after.body) := fun x => (cell_of_row _ _ 10 _ _ _ (hcg x)).trans rfl
              have hb11 : ∀ x, (fut (Below n2) y5 x).cell? ⟨BA, 11, none⟩ = some (.int .i64 after.key) := fun x => (cell_of_row _ _ 11 _ _ _ (hcg x)).trans rfl
              have hb12 : ∀ x, (fut (Below n2) y5 x).cell? ⟨BA, 12, none⟩ = some (.string after.dig) := fun x => (cell_of_row _ _ 12 _ _ _ (hcg x)).trans rfl
              clear hcg
              refine flow_reads (F := Below n2) (fun _ => Below.refl _ _) (by kernel_rfl) [29] (fuel := 8) (by kernel_rfl) ?_
              simp only [List.map_cons, List.map_nil, pick, List.getD_cons_zero, List.getD_cons_succ]
              repeat (go_big_quiet_step (fail))
              refine wpQuiet_nil ?_
              clear hb0 hb1 hb2 hb3 hb4 hb5 hb6 hb7 hb8 hb9 hb10 hb11 hb12
              refine flow_two (F := Below n2) (fun _ _ _ h k => Below.trans h k) (fun _ => Below.refl _ _) 27 30 (by kernel_rfl) (by decide) (by decide) ?_ ?_ <;> simp only [pick, List.getD_cons_zero, List.getD_cons_succ]
              · go_wp2_with (at_builtin; go_must (refine wpList_appG y5 rfl (.const (.slice none 0 0)) (.tmp 131) 27 27 33 rfl y5.heap.size Tryd.underlying27 stm_info rfl _ 0 [] (World.ownsRow_nil _ _ _ _) rfl (.slice (some ⟨b, off, none⟩) (q + 1) cp) (q + 1) (stmsC l) (Row.src (HR0.out.later HS.out) Tryd.underlying27 (stmsC_one _)) rfl (by unfold maxLen; omega) (by omega) (Nat.le_refl _) ?_); intro v2 y6 ho hb; rw [Nat.zero_add, List.nil_append] at ho; obtain ⟨A2, c2, hv2, hr2⟩ := Row.of_own ho; subst hv2; have HOx := Lib.hid ho; have HBx := Lib.hid hb; clear ho hb hr2)
                refine pieceEnd_normal ⟨HBx.out.mono (by have h1 := HN0.out; have h2 := HS.out.size; omega), ?_⟩
                obtain ⟨B1, hB1⟩ : ∃ B1, B1 = y5.heap.size := ⟨_, rfl⟩
                have XA : Hid (y6.ownsRow B1 33 13 (.slice A2 (q + 1) c2) (q + 1) (stmsC l)) := Lib.hid (by rw [hB1]; exact HOx.out)
                have HBA : Hid (p0.heap.size ≤ B1) := Lib.hid (by rw [hB1]; exact HS.out.size)
                have HBL : Hid (B1 ≤ y6.heap.size) := Lib.hid (by rw [hB1]; exact HBx.out.size)
                replace HS := Lib.hid (HS.out.trans (HBx.out.mono HS.out.size))
                clear HOx HBx hB1
                refine flow_one (F := Below n2) (fun _ _ _ h k => Below.trans h k) (fun _ => Below.refl _ _) 30 (by kernel_rfl) (by decide) ?_
                simp only [pick, List.getD_cons_zero, List.getD_cons_succ]
                go_wp2_with fail
                refine pieceEnd_normal ⟨(one_new y6 _).mono (by have h1 := HN0.out; have h2 := HS.out.size; omega), ?_⟩
                obtain ⟨BT, hBB⟩ : ∃ B, B = y6.heap.size := ⟨_, rfl⟩
                replace XA := Lib.hid (own_below XA.out (one_new y6 (.cells #[.int .i64 gone.author, .int .i64 gone.number, .string gone.prev, .int .i64 gone.time, .int .i64 gone.kind, .int .i64 gone.a, .int .i64 gone.b, .int .i64 gone.c, .slice none 0 0, .slice none 0 0, .string gone.body, .int .i64 gone.key, .string gone.dig, .int .i64 after.author, .int .i64 after.number, .string after.prev, .int .i64 after.time, .int .i64 after.kind, .int .i64 after.a, .int .i64 after.b, .int .i64 after.c, .slice none 0 0, .slice none 0 0, .string after.body, .int .i64 after.key, .string after.dig] 33)) (own_lt XA.out)); replace HBL := Lib.hid (Nat.le_trans HBL.out (one_new y6 (.cells #[.int .i64 gone.author, .int .i64 gone.number, .string gone.prev, .int .i64 gone.time, .int .i64 gone.kind, .int .i64 gone.a, .int .i64 gone.b, .int .i64 gone.c, .slice none 0 0, .slice none 0 0, .string gone.body, .int .i64 gone.key, .string gone.dig, .int .i64 after.author, .int .i64 after.number, .string after.prev, .int .i64 after.time, .int .i64 after.kind, .int .i64 after.a, .int .i64 after.b, .int .i64 after.c, .slice none 0 0, .slice none 0 0, .string after.body, .int .i64 after.key, .string after.dig] 33)).size)
                have XT : Hid ((y6.alloc (.cells #[.int .i64 gone.author, .int .i64 gone.number, .string gone.prev, .int .i64 gone.time, .int .i64 gone.kind, .int .i64 gone.a, .int .i64 gone.b, .int .i64 gone.c, .slice none 0 0, .slice none 0 0, .string gone.body, .int .i64 gone.key, .string gone.dig, .int .i64 after.author, .int .i64 after.number, .string after.prev, .int .i64 after.time, .int .i64 after.kind, .int .i64 after.a, .int .i64 after.b, .int .i64 after.c, .slice none 0 0, .slice none 0 0, .string after.body, .int .i64 after.key, .string after.dig] 33)).heap[BT]? = some (.cells #[.int .i64 gone.author, .int .i64 gone.number, .string gone.prev, .int .i64 gone.time, .int .i64 gone.kind, .int .i64 gone.a, .int .i64 gone.b, .int .i64 gone.c, .slice none 0 0, .slice none 0 0, .string gone.body, .int .i64 gone.key, .string gone.dig, .int .i64 after.author, .int .i64 after.number, .string after.prev, .int .i64 after.time, .int .i64 after.kind, .int .i64 after.a, .int .i64 after.b, .int .i64 after.c, .slice none 0 0, .slice none 0 0, .string after.body, .int .i64 after.key, .string after.dig] 33 (0, 0))) := Lib.hid (by rw [hBB]; exact heap_alloc_new _ _)
                replace HS : Hid (Below p0.heap.size p0 (y6.alloc (.cells #[.int .i64 gone.author, .int .i64 gone.number, .string gone.prev, .int .i64 gone.time, .int .i64 gone.kind, .int .i64 gone.a, .int .i64 gone.b, .int .i64 gone.c, .slice none 0 0, .slice none 0 0, .string gone.body, .int .i64 gone.key, .string gone.dig, .int .i64 after.author, .int .i64 after.number, .string after.prev, .int .i64 after.time, .int .i64 after.kind, .int .i64 after.a, .int .i64 after.b, .int .i64 after.c, .slice none 0 0, .slice none 0 0, .string after.body, .int .i64 after.key, .string after.dig] 33))) := Lib.hid (HS.out.trans ((one_new y6 _).mono HS.out.size))
                try rw [← hBB]
                clear hBB
                generalize y6.alloc (.cells #[.int .i64 gone.author, .int .i64 gone.number, .string gone.prev, .int .i64 gone.time, .int .i64 gone.kind, .int .i64 gone.a, .int .i64 gone.b, .int .i64 gone.c, .slice none 0 0, .slice none 0 0, .string gone.body, .int .i64 gone.key, .string gone.dig, .int .i64 after.author, .int .i64 after.number, .string after.prev, .int .i64 after.time, .int .i64 after.kind, .int .i64 after.a, .int .i64 after.b, .int .i64 after.c, .slice none 0 0, .slice none 0 0, .string after.body, .int .i64 after.key, .string after.dig] 33) = y7 at HS XT XA HBL ⊢
                refine flow_one (F := Below n2) (fun _ _ _ h k => Below.trans h k) (fun _ => Below.refl _ _) 31 (by kernel_rfl) (by decide) ?_
                simp only [pick, List.getD_cons_zero, List.getD_cons_succ]
                go_wp2_with (at_builtin; go_must (refine wpList_appG y7 rfl (.tmp 132) (.tmp 135) 27 27 33 rfl B1 Tryd.underlying27 stm_info rfl _ (q + 1) (stmsC l) XA.out rfl (.slice (some ⟨BT, 0, none⟩) 2 2) 2 (stmsC [gone, after]) (Row.src (show SRow y7 (some ⟨BT, 0, none⟩) 2 2 [gone, after] from Row.of_block XT.out rfl) Tryd.underlying27 (stmsC_one _)) rfl (by unfold maxLen; omega) (by omega) HBL.out ?_); intro v4 y8 ho hb; rw [← stmsC_app] at ho; obtain ⟨A4, c4, hv4, hr4⟩ := Row.of_own ho; subst hv4; have XN : Hid (SRow y8 A4 (q + 1 + 2) c4 ((l ++ [gone]) ++ [after])) := Lib.hid (by rw [List.append_assoc]; exact hr4); have HBx := Lib.hid hb; clear ho hb hr4)
                refine pieceEnd_normal ⟨HBx.out.mono (by have h1 := HN0.out; have h2 := HBA.out; omega), ?_⟩
                replace HS := Lib.hid (HS.out.trans (HBx.out.mono HBA.out))
                clear HBx XA XT HBA HBL
                refine flow_one (F := Below n2) (fun _ _ _ h k => Below.trans h k) (fun _ => Below.refl _ _) 32 (by kernel_rfl) (by decide) ?_
                simp only [pick, List.getD_cons_zero, List.getD_cons_succ]
                go_wp2_with fail
                refine (HCA.out y8 A4 (q + 1 + 2) c4 (HB0.out.trans (HS.out.mono HB0.out.size)) XN.out).mono ?_
                rintro e y9 ⟨A6, c6, rfl, hb⟩
                have hf : Below n2 _ _ := hb.mono (by have h1 := HN0.out; have h2 := HS.out.size; omega)
                replace HS := Lib.hid (HS.out.trans (hb.mono HS.out.size))
                clear hb
                go_wp2_with fail
                refine pieceEnd_normal ⟨hf, ?_⟩
                clear hf
                clear XN
                refine flow_reads (F := Below n2) (fun _ => Below.refl _ _) (by kernel_rfl) [33, 37, 38, 39] (fuel := 0) (by kernel_rfl) ?_
                simp only [List.map_cons, List.map_nil, pick, List.getD_cons_zero, List.getD_cons_succ]
                repeat (go_big_quiet_step (fail))
                refine wpQuiet_nil ?_
                refine flow_done (by kernel_rfl) ?_
                refine HK19 _ _ ?_
                go_wp2_with fail
                go_ret
                exact ⟨rfl, HB0.out.trans (HS.out.mono HB0.out.size)⟩
              · go_wp2_with fail
                refine pieceEnd_normal ⟨(one_new y5 _).mono (by have h1 := HN0.out; have h2 := HS.out.size; omega), ?_⟩
                obtain ⟨BT, hBB⟩ : ∃ B, B = y5.heap.size := ⟨_, rfl⟩
                have XT : Hid ((y5.alloc (.cells #[.int .i64 gone.author, .int .i64 gone.number, .string gone.prev, .int .i64 gone.time, .int .i64 gone.kind, .int .i64 gone.a, .int .i64 gone.b, .int .i64 gone.c, .slice none 0 0, .slice none 0 0, .string gone.body, .int .i64 gone.key, .string gone.dig, .int .i64 after.author, .int .i64 after.number, .string after.prev, .int .i64 after.time, .int .i64 after.kind, .int .i64 after.a, .int .i64 after.b, .int .i64 after.c, .slice none 0 0, .slice none 0 0, .string after.body, .int .i64 after.key, .string after.dig] 33)).heap[BT]? = some (.cells #[.int .i64 gone.author, .int .i64 gone.number, .string gone.prev, .int .i64 gone.time, .int .i64 gone.kind, .int .i64 gone.a, .int .i64 gone.b, .int .i64 gone.c, .slice none 0 0, .slice none 0 0, .string gone.body, .int .i64 gone.key, .string gone.dig, .int .i64 after.author, .int .i64 after.number, .string after.prev, .int .i64 after.time, .int .i64 after.kind, .int .i64 after.a, .int .i64 after.b, .int .i64 after.c, .slice none 0 0, .slice none 0 0, .string after.body, .int .i64 after.key, .string after.dig] 33 (0, 0))) := Lib.hid (by rw [hBB]; exact heap_alloc_new _ _)
                replace HS : Hid (Below p0.heap.size p0 (y5.alloc (.cells #[.int .i64 gone.author, .int .i64 gone.number, .string gone.prev, .int .i64 gone.time, .int .i64 gone.kind, .int .i64 gone.a, .int .i64 gone.b, .int .i64 gone.c, .slice none 0 0, .slice none 0 0, .string gone.body, .int .i64 gone.key, .string gone.dig, .int .i64 after.author, .int .i64 after.number, .string after.prev, .int .i64 after.time, .int .i64 after.kind, .int .i64 after.a, .int .i64 after.b, .int .i64 after.c, .slice none 0 0, .slice none 0 0, .string after.body, .int .i64 after.key, .string after.dig] 33))) := Lib.hid (HS.out.trans ((one_new y5 _).mono HS.out.size))
                try rw [← hBB]
                clear hBB
                generalize y5.alloc (.cells #[.int .i64 gone.author, .int .i64 gone.number, .string gone.prev, .int .i64 gone.time, .int .i64 gone.kind, .int .i64 gone.a, .int .i64 gone.b, .int .i64 gone.c, .slice none 0 0, .slice none 0 0, .string gone.body, .int .i64 gone.key, .string gone.dig, .int .i64 after.author, .int .i64 after.number, .string after.prev, .int .i64 after.time, .int .i64 after.kind, .int .i64 after.a, .int .i64 after.b, .int .i64 after.c, .slice none 0 0, .slice none 0 0, .string after.body, .int .i64 after.key, .string after.dig] 33) = y10 at HS XT ⊢
                refine flow_one (F := Below n2) (fun _ _ _ h k => Below.trans h k) (fun _ => Below.refl _ _) 27 (by kernel_rfl) (by decide) ?_
                simp only [pick, List.getD_cons_zero, List.getD_cons_succ]
                go_wp2_with (at_builtin; go_must (refine wpList_appG y10 rfl (.const (.slice none 0 0)) (.tmp 131) 27 27 33 rfl y10.heap.size Tryd.underlying27 stm_info rfl _ 0 [] (World.ownsRow_nil _ _ _ _) rfl (.slice (some ⟨b, off, none⟩) (q + 1) cp) (q + 1) (stmsC l) (Row.src (HR0.out.later HS.out) Tryd.underlying27 (stmsC_one _)) rfl (by unfold maxLen; omega) (by omega) (Nat.le_refl _) ?_); intro v2 y11 ho hb; rw [Nat.zero_add, List.nil_append] at ho; obtain ⟨A2, c2, hv2, hr2⟩ := Row.of_own ho; subst hv2; have HOx := Lib.hid ho; have HBx := Lib.hid hb; clear ho hb hr2)
                refine pieceEnd_normal ⟨HBx.out.mono (by have h1 := HN0.out; have h2 := HS.out.size; omega), ?_⟩
                obtain ⟨B1, hB1⟩ : ∃ B1, B1 = y10.heap.size := ⟨_, rfl⟩
                have XA : Hid (y11.ownsRow B1 33 13 (.slice A2 (q + 1) c2) (q + 1) (stmsC l)) := Lib.hid (by rw [hB1]; exact HOx.out)
                have HBA : Hid (p0.heap.size ≤ B1) := Lib.hid (by rw [hB1]; exact HS.out.size)
                have HBL : Hid (B1 ≤ y11.heap.size) := Lib.hid (by rw [hB1]; exact HBx.out.size)
                replace XT := Lib.hid ((HBx.out.block _ (Array.getElem?_eq_some_iff.1 XT.out).1).trans XT.out)
                replace HS := Lib.hid (HS.out.trans (HBx.out.mono HS.out.size))
                clear HOx HBx hB1
                refine flow_one (F := Below n2) (fun _ _ _ h k => Below.trans h k) (fun _ => Below.refl _ _) 31 (by kernel_rfl) (by decide) ?_
                simp only [pick, List.getD_cons_zero, List.getD_cons_succ]
                go_wp2_with (at_builtin; go_must (refine wpList_appG y11 rfl (.tmp 132) (.tmp 135) 27 27 33 rfl B1 Tryd.underlying27 stm_info rfl _ (q + 1) (stmsC l) XA.out rfl (.slice (some ⟨BT, 0, none⟩) 2 2) 2 (stmsC [gone, after]) (Row.src (show SRow y11 (some ⟨BT, 0, none⟩) 2 2 [gone, after] from Row.of_block XT.out rfl) Tryd.underlying27 (stmsC_one _)) rfl (by unfold maxLen; omega) (by omega) HBL.out ?_); intro v4 y12 ho hb; rw [← stmsC_app] at ho; obtain ⟨A4, c4, hv4, hr4⟩ := Row.of_own ho; subst hv4; have XN : Hid (SRow y12 A4 (q + 1 + 2) c4 ((l ++ [gone]) ++ [after])) := Lib.hid (by rw [List.append_assoc]; exact hr4); have HBx := Lib.hid hb; clear ho hb hr4)
                refine pieceEnd_normal ⟨HBx.out.mono (by have h1 := HN0.out; have h2 := HBA.out; omega), ?_⟩
                replace HS := Lib.hid (HS.out.trans (HBx.out.mono HBA.out))
                clear HBx XA XT HBA HBL
                refine flow_one (F := Below n2) (fun _ _ _ h k => Below.trans h k) (fun _ => Below.refl _ _) 32 (by kernel_rfl) (by decide) ?_
                simp only [pick, List.getD_cons_zero, List.getD_cons_succ]
                go_wp2_with fail
                refine (HCA.out y12 A4 (q + 1 + 2) c4 (HB0.out.trans (HS.out.mono HB0.out.size)) XN.out).mono ?_
                rintro e y13 ⟨A6, c6, rfl, hb⟩
                have hf : Below n2 _ _ := hb.mono (by have h1 := HN0.out; have h2 := HS.out.size; omega)
                replace HS := Lib.hid (HS.out.trans (hb.mono HS.out.size))
                clear hb
                go_wp2_with fail
                refine pieceEnd_normal ⟨hf, ?_⟩
                clear hf
                clear XN
                refine flow_reads (F := Below n2) (fun _ => Below.refl _ _) (by kernel_rfl) [33, 37, 38, 39] (fuel := 0) (by kernel_rfl) ?_
                simp only [List.map_cons, List.map_nil, pick, List.getD_cons_zero, List.getD_cons_succ]
                repeat (go_big_quiet_step (fail))
                refine wpQuiet_nil ?_
                refine flow_done (by kernel_rfl) ?_
                refine HK19 _ _ ?_
                go_wp2_with fail
                go_ret
                exact ⟨rfl, HB0.out.trans (HS.out.mono HB0.out.size)⟩
            · go_wp2_with fail
              refine pieceEnd_normal ⟨(one_new y1 _).mono (by have h1 := HN0.out; have h2 := HS.out.size; omega), ?_⟩
              obtain ⟨BT, hBB⟩ : ∃ B, B = y1.heap.size := ⟨_, rfl⟩
              have XT : Hid ((y1.alloc (.cells #[.int .i64 late.author, .int .i64 late.number, .string late.prev, .int .i64 late.time, .int .i64 late.kind, .int .i64 late.a, .int .i64 late.b, .int .i64 late.c, .slice none 0 0, .slice none 0 0, .string late.body, .int .i64 late.key, .string late.dig] 33)).heap[BT]? = some (.cells #[.int .i64 late.author, .int .i64 late.number, .string late.prev, .int .i64 late.time, .int .i64 late.kind, .int .i64 late.a, .int .i64 late.b, .int .i64 late.c, .slice none 0 0, .slice none 0 0, .string late.body, .int .i64 late.key, .string late.dig] 33 (0, 0))) := Lib.hid (by rw [hBB]; exact heap_alloc_new _ _)
              replace HS : Hid (Below p0.heap.size p0 (y1.alloc (.cells #[.int .i64 late.author, .int .i64 late.number, .string late.prev, .int .i64 late.time, .int .i64 late.kind, .int .i64 late.a, .int .i64 late.b, .int .i64 late.c, .slice none 0 0, .slice none 0 0, .string late.body, .int .i64 late.key, .string late.dig] 33))) := Lib.hid (HS.out.trans ((one_new y1 _).mono HS.out.size))
              try rw [← hBB]
              clear hBB
              generalize y1.alloc (.cells #[.int .i64 late.author, .int .i64 late.number, .string late.prev, .int .i64 late.time, .int .i64 late.kind, .int .i64 late.a, .int .i64 late.b, .int .i64 late.c, .slice none 0 0, .slice none 0 0, .string late.body, .int .i64 late.key, .string late.dig] 33) = y14 at HS XT ⊢
              refine flow_one (F := Below n2) (fun _ _ _ h k => Below.trans h k) (fun _ => Below.refl _ _) 15 (by kernel_rfl) (by decide) ?_
              simp only [pick, List.getD_cons_zero, List.getD_cons_succ]
              go_wp2_with (at_builtin; go_must (refine wpList_appG y14 rfl (.const (.slice none 0 0)) (.tmp 119) 27 27 33 rfl y14.heap.size Tryd.underlying27 stm_info rfl _ 0 [] (World.ownsRow_nil _ _ _ _) rfl (.slice (some ⟨b, off, none⟩) (q + 1) cp) (q + 1) (stmsC l) (Row.src (HR0.out.later HS.out) Tryd.underlying27 (stmsC_one _)) rfl (by unfold maxLen; omega) (by omega) (Nat.le_refl _) ?_); intro v2 y15 ho hb; rw [Nat.zero_add, List.nil_append] at ho; obtain ⟨A2, c2, hv2, hr2⟩ := Row.of_own ho; subst hv2; have HOx := Lib.hid ho; have HBx := Lib.hid hb; clear ho hb hr2)
              refine pieceEnd_normal ⟨HBx.out.mono (by have h1 := HN0.out; have h2 := HS.out.size; omega), ?_⟩
              obtain ⟨B1, hB1⟩ : ∃ B1, B1 = y14.heap.size := ⟨_, rfl⟩
              have XA : Hid (y15.ownsRow B1 33 13 (.slice A2 (q + 1) c2) (q + 1) (stmsC l)) := Lib.hid (by rw [hB1]; exact HOx.out)
              have HBA : Hid (p0.heap.size ≤ B1) := Lib.hid (by rw [hB1]; exact HS.out.size)
              have HBL : Hid (B1 ≤ y15.heap.size) := Lib.hid (by rw [hB1]; exact HBx.out.size)
              replace XT := Lib.hid ((HBx.out.block _ (Array.getElem?_eq_some_iff.1 XT.out).1).trans XT.out)
              replace HS := Lib.hid (HS.out.trans (HBx.out.mono HS.out.size))
              clear HOx HBx hB1
              refine flow_one (F := Below n2) (fun _ _ _ h k => Below.trans h k) (fun _ => Below.refl _ _) 18 (by kernel_rfl) (by decide) ?_
              simp only [pick, List.getD_cons_zero, List.getD_cons_succ]
              go_wp2_with (at_builtin; go_must (refine wpList_appG y15 rfl (.tmp 120) (.tmp 122) 27 27 33 rfl B1 Tryd.underlying27 stm_info rfl _ (q + 1) (stmsC l) XA.out rfl (.slice (some ⟨BT, 0, none⟩) 1 1) 1 (stmsC [late]) (Row.src (show SRow y15 (some ⟨BT, 0, none⟩) 1 1 [late] from Row.of_block XT.out rfl) Tryd.underlying27 (stmsC_one _)) rfl (by unfold maxLen; omega) (by omega) HBL.out ?_); intro v4 y16 ho hb; rw [← stmsC_app] at ho; obtain ⟨A4, c4, hv4, hr4⟩ := Row.of_own ho; subst hv4; have XN : Hid (SRow y16 A4 (q + 1 + 1) c4 (l ++ [late])) := Lib.hid (hr4); have HBx := Lib.hid hb; clear ho hb hr4)
              refine pieceEnd_normal ⟨HBx.out.mono (by have h1 := HN0.out; have h2 := HBA.out; omega), ?_⟩
              replace HS := Lib.hid (HS.out.trans (HBx.out.mono HBA.out))
              clear HBx XA XT HBA HBL
              refine flow_one (F := Below n2) (fun _ _ _ h k => Below.trans h k) (fun _ => Below.refl _ _) 19 (by kernel_rfl) (by decide) ?_
              simp only [pick, List.getD_cons_zero, List.getD_cons_succ]
              go_wp2_with fail
              refine (HCL.out y16 A4 (q + 1 + 1) c4 (HB0.out.trans (HS.out.mono HB0.out.size)) XN.out).mono ?_
              rintro e y17 ⟨A5, c5, rfl, hb⟩
              have hf : Below n2 _ _ := hb.mono (by have h1 := HN0.out; have h2 := HS.out.size; omega)
              replace HS := Lib.hid (HS.out.trans (hb.mono HS.out.size))
              clear hb
              go_wp2_with fail
              refine pieceEnd_normal ⟨hf, ?_⟩
              clear hf
              clear XN
              refine flow_reads (F := Below n2) (fun _ => Below.refl _ _) (by kernel_rfl) [20, 23, 24, 25, 26, 34, 35] (fuel := 11) (by kernel_rfl) ?_
              simp only [List.map_cons, List.map_nil, pick, List.getD_cons_zero, List.getD_cons_succ]
              repeat (go_big_quiet_step (fail))
              refine wpQuiet_nil ?_
              refine flow_reads (F := Below n2) (fun _ => Below.refl _ _) (by kernel_rfl) [36] (fuel := 10) (by kernel_rfl) ?_
              simp only [List.map_cons, List.map_nil, pick, List.getD_cons_zero, List.getD_cons_succ]
              repeat (go_big_quiet_step (fail))
              refine wpQuiet_nil ?_
              have hcg : ∀ x, BoxS (fut (Below n2) y17 x) BG gone := fun x => XG0.out.later (HS.out.trans ((fut_ok (F := Below n2) (fun _ => Below.refl _ _) y17 x).mono (Nat.le_of_eq HN0.out.symm)))
              have ha0 : ∀ x, (fut (Below n2) y17 x).cell? ⟨BG, 0, none⟩ = some (.int .i64 gone.author) := fun x => (cell_of_row _ _ 0 _ _ _ (hcg x)).trans rfl
              have ha1 : ∀ x, (fut (Below n2) y17 x).cell? ⟨BG, 1, none⟩ = some (.int .i64 gone.number) := fun x => (cell_of_row _ _ 1 _ _ _ (hcg x)).trans rfl
              have ha2 : ∀ x, (fut (Below n2) y17 x).cell? ⟨BG, 2, none⟩ = some (.string gone.prev) := fun x => (cell_of_row _ _ 2 _ _ _ (hcg x)).trans rfl
              have ha3 : ∀ x, (fut (Below n2) y17 x).cell? ⟨BG, 3, none⟩ = some (.int .i64 gone.time) := fun x => (cell_of_row _ _ 3 _ _ _ (hcg x)).trans rfl
              have ha4 : ∀ x, (fut (Below n2) y17 x).cell? ⟨BG, 4, none⟩ = some (.int .i64 gone.kind) := fun x => (cell_of_row _ _ 4 _ _ _ (hcg x)).trans rfl
              have ha5 : ∀ x, (fut (Below n2) y17 x).cell? ⟨BG, 5, none⟩ = some (.int .i64 gone.a) := fun x => (cell_of_row _ _ 5 _ _ _ (hcg x)).trans rfl
              have ha6 : ∀ x, (fut (Below n2) y17 x).cell? ⟨BG, 6, none⟩ = some (.int .i64 gone.b) := fun x => (cell_of_row _ _ 6 _ _ _ (hcg x)).trans rfl
              have ha7 : ∀ x, (fut (Below n2) y17 x).cell? ⟨BG, 7, none⟩ = some (.int .i64 gone.c) := fun x => (cell_of_row _ _ 7 _ _ _ (hcg x)).trans rfl
              have ha8 : ∀ x, (fut (Below n2) y17 x).cell? ⟨BG, 8, none⟩ = some (.slice none 0 0) := fun x => (cell_of_row _ _ 8 _ _ _ (hcg x)).trans rfl
              have ha9 : ∀ x, (fut (Below n2) y17 x).cell? ⟨BG, 9, none⟩ = some (.slice none 0 0) := fun x => (cell_of_row _ _ 9 _ _ _ (hcg x)).trans rfl
              have ha10 : ∀ x, (fut (Below n2) y17 x).cell? ⟨BG, 10, none⟩ = some (.string gone.body) := fun x => (cell_of_row _ _ 10 _ _ _ (hcg x)).trans rfl
              have ha11 : ∀ x, (fut (Below n2) y17 x).cell? ⟨BG, 11, none⟩ = some (.int .i64 gone.key) := fun x => (cell_of_row _ _ 11 _ _ _ (hcg x)).trans rfl
              have ha12 : ∀ x, (fut (Below n2) y17 x).cell? ⟨BG, 12, none⟩ = some (.string gone.dig) := fun x => (cell_of_row _ _ 12 _ _ _ (hcg x)).trans rfl
              clear hcg
              refine flow_reads (F := Below n2) (fun _ => Below.refl _ _) (by kernel_rfl) [28] (fuel := 9) (by kernel_rfl) ?_
              simp only [List.map_cons, List.map_nil, pick, List.getD_cons_zero, List.getD_cons_succ]
              repeat (go_big_quiet_step (fail))
              refine wpQuiet_nil ?_
              clear ha0 ha1 ha2 ha3 ha4 ha5 ha6 ha7 ha8 ha9 ha10 ha11 ha12
              have hcg : ∀ x, BoxS (fut (Below n2) y17 x) BA after := fun x => XA0.out.later (HS.out.trans ((fut_ok (F := Below n2) (fun _ => Below.refl _ _) y17 x).mono (Nat.le_of_eq HN0.out.symm)))
              have hb0 : ∀ x, (fut (Below n2) y17 x).cell? ⟨BA, 0, none⟩ = some (.int .i64 after.author) := fun x => (cell_of_row _ _ 0 _ _ _ (hcg x)).trans rfl
              have hb1 : ∀ x, (fut (Below n2) y17 x).cell? ⟨BA, 1, none⟩ = some (.int .i64 after.number) := fun x => (cell_of_row _ _ 1 _ _ _ (hcg x)).trans rfl
              have hb2 : ∀ x, (fut (Below n2) y17 x).cell? ⟨BA, 2, none⟩ = some (.string after.prev) := fun x => (cell_of_row _ _ 2 _ _ _ (hcg x)).trans rfl
              have hb3 : ∀ x, (fut (Below n2) y17 x).cell? ⟨BA, 3, none⟩ = some (.int .i64 after.time) := fun x => (cell_of_row _ _ 3 _ _ _ (hcg x)).trans rfl
              have hb4 : ∀ x, (fut (Below n2) y17 x).cell? ⟨BA, 4, none⟩ = some (.int .i64 after.kind) := fun x => (cell_of_row _ _ 4 _ _ _ (hcg x)).trans rfl
              have hb5 : ∀ x, (fut (Below n2) y17 x).cell? ⟨BA, 5, none⟩ = some (.int .i64 after.a) := fun x => (cell_of_row _ _ 5 _ _ _ (hcg x)).trans rfl
              have hb6 : ∀ x, (fut (Below n2) y17 x).cell? ⟨BA, 6, none⟩ = some (.int .i64 after.b) := fun x => (cell_of_row _ _ 6 _ _ _ (hcg x)).trans rfl
              have hb7 : ∀ x, (fut (Below n2) y17 x).cell? ⟨BA, 7, none⟩ = some (.int .i64 after.c) := fun x => (cell_of_row _ _ 7 _ _ _ (hcg x)).trans rfl
              have hb8 : ∀ x, (fut (Below n2) y17 x).cell? ⟨BA, 8, none⟩ = some (.slice none 0 0) := fun x => (cell_of_row _ _ 8 _ _ _ (hcg x)).trans rfl
              have hb9 : ∀ x, (fut (Below n2) y17 x).cell? ⟨BA, 9, none⟩ = some (.slice none 0 0) := fun x => (cell_of_row _ _ 9 _ _ _ (hcg x)).trans rfl
              have hb10 : ∀ x, (fut (Below n2) y17 x).cell? ⟨BA, 10, none⟩ = some (.string after.body) := fun x => (cell_of_row _ _ 10 _ _ _ (hcg x)).trans rfl
              have hb11 : ∀ x, (fut (Below n2) y17 x).cell? ⟨BA, 11, none⟩ = some (.int .i64 after.key) := fun x => (cell_of_row _ _ 11 _ _ _ (hcg x)).trans rfl
              have hb12 : ∀ x, (fut (Below n2) y17 x).cell? ⟨BA, 12, none⟩ = some (.string after.dig) := fun x => (cell_of_row _ _ 12 _ _ _ (hcg x)).trans rfl
              clear hcg
              refine flow_reads (F := Below n2) (fun _ => Below.refl _ _) (by kernel_rfl) [29] (fuel := 8) (by kernel_rfl) ?_
              simp only [List.map_cons, List.map_nil, pick, List.getD_cons_zero, List.getD_cons_succ]
              repeat (go_big_quiet_step (fail))
              refine wpQuiet_nil ?_
              clear hb0 hb1 hb2 hb3 hb4 hb5 hb6 hb7 hb8 hb9 hb10 hb11 hb12
              refine flow_two (F := Below n2) (fun _ _ _ h k => Below.trans h k) (fun _ => Below.refl _ _) 27 30 (by kernel_rfl) (by decide) (by decide) ?_ ?_ <;> simp only [pick, List.getD_cons_zero, List.getD_cons_succ]
              · go_wp2_with (at_builtin; go_must (refine wpList_appG y17 rfl (.const (.slice none 0 0)) (.tmp 131) 27 27 33 rfl y17.heap.size Tryd.underlying27 stm_info rfl _ 0 [] (World.ownsRow_nil _ _ _ _) rfl (.slice (some ⟨b, off, none⟩) (q + 1) cp) (q + 1) (stmsC l) (Row.src (HR0.out.later HS.out) Tryd.underlying27 (stmsC_one _)) rfl (by unfold maxLen; omega) (by omega) (Nat.le_refl _) ?_); intro v2 y18 ho hb; rw [Nat.zero_add, List.nil_append] at ho; obtain ⟨A2, c2, hv2, hr2⟩ := Row.of_own ho; subst hv2; have HOx := Lib.hid ho; have HBx := Lib.hid hb; clear ho hb hr2)
                refine pieceEnd_normal ⟨HBx.out.mono (by have h1 := HN0.out; have h2 := HS.out.size; omega), ?_⟩
                obtain ⟨B1, hB1⟩ : ∃ B1, B1 = y17.heap.size := ⟨_, rfl⟩
                have XA : Hid (y18.ownsRow B1 33 13 (.slice A2 (q + 1) c2) (q + 1) (stmsC l)) := Lib.hid (by rw [hB1]; exact HOx.out)
                have HBA : Hid (p0.heap.size ≤ B1) := Lib.hid (by rw [hB1]; exact HS.out.size)
                have HBL : Hid (B1 ≤ y18.heap.size) := Lib.hid (by rw [hB1]; exact HBx.out.size)
                replace HS := Lib.hid (HS.out.trans (HBx.out.mono HS.out.size))
                clear HOx HBx hB1
                refine flow_one (F := Below n2) (fun _ _ _ h k => Below.trans h k) (fun _ => Below.refl _ _) 30 (by kernel_rfl) (by decide) ?_
                simp only [pick, List.getD_cons_zero, List.getD_cons_succ]
                go_wp2_with fail
                refine pieceEnd_normal ⟨(one_new y18 _).mono (by have h1 := HN0.out; have h2 := HS.out.size; omega), ?_⟩
                obtain ⟨BT, hBB⟩ : ∃ B, B = y18.heap.size := ⟨_, rfl⟩
                replace XA := Lib.hid (own_below XA.out (one_new y18 (.cells #[.int .i64 gone.author, .int .i64 gone.number, .string gone.prev, .int .i64 gone.time, .int .i64 gone.kind, .int .i64 gone.a, .int .i64 gone.b, .int .i64 gone.c, .slice none 0 0, .slice none 0 0, .string gone.body, .int .i64 gone.key, .string gone.dig, .int .i64 after.author, .int .i64 after.number, .string after.prev, .int .i64 after.time, .int .i64 after.kind, .int .i64 after.a, .int .i64 after.b, .int .i64 after.c, .slice none 0 0, .slice none 0 0, .string after.body, .int .i64 after.key, .string after.dig] 33)) (own_lt XA.out)); replace HBL := Lib.hid (Nat.le_trans HBL.out (one_new y18 (.cells #[.int .i64 gone.author, .int .i64 gone.number, .string gone.prev, .int .i64 gone.time, .int .i64 gone.kind, .int .i64 gone.a, .int .i64 gone.b, .int .i64 gone.c, .slice none 0 0, .slice none 0 0, .string gone.body, .int .i64 gone.key, .string gone.dig, .int .i64 after.author, .int .i64 after.number, .string after.prev, .int .i64 after.time, .int .i64 after.kind, .int .i64 after.a, .int .i64 after.b, .int .i64 after.c, .slice none 0 0, .slice none 0 0, .string after.body, .int .i64 after.key, .string after.dig] 33)).size)
                have XT : Hid ((y18.alloc (.cells #[.int .i64 gone.author, .int .i64 gone.number, .string gone.prev, .int .i64 gone.time, .int .i64 gone.kind, .int .i64 gone.a, .int .i64 gone.b, .int .i64 gone.c, .slice none 0 0, .slice none 0 0, .string gone.body, .int .i64 gone.key, .string gone.dig, .int .i64 after.author, .int .i64 after.number, .string after.prev, .int .i64 after.time, .int .i64 after.kind, .int .i64 after.a, .int .i64 after.b, .int .i64 after.c, .slice none 0 0, .slice none 0 0, .string after.body, .int .i64 after.key, .string after.dig] 33)).heap[BT]? = some (.cells #[.int .i64 gone.author, .int .i64 gone.number, .string gone.prev, .int .i64 gone.time, .int .i64 gone.kind, .int .i64 gone.a, .int .i64 gone.b, .int .i64 gone.c, .slice none 0 0, .slice none 0 0, .string gone.body, .int .i64 gone.key, .string gone.dig, .int .i64 after.author, .int .i64 after.number, .string after.prev, .int .i64 after.time, .int .i64 after.kind, .int .i64 after.a, .int .i64 after.b, .int .i64 after.c, .slice none 0 0, .slice none 0 0, .string after.body, .int .i64 after.key, .string after.dig] 33 (0, 0))) := Lib.hid (by rw [hBB]; exact heap_alloc_new _ _)
                replace HS : Hid (Below p0.heap.size p0 (y18.alloc (.cells #[.int .i64 gone.author, .int .i64 gone.number, .string gone.prev, .int .i64 gone.time, .int .i64 gone.kind, .int .i64 gone.a, .int .i64 gone.b, .int .i64 gone.c, .slice none 0 0, .slice none 0 0, .string gone.body, .int .i64 gone.key, .string gone.dig, .int .i64 after.author, .int .i64 after.number, .string after.prev, .int .i64 after.time, .int .i64 after.kind, .int .i64 after.a, .int .i64 after.b, .int .i64 after.c, .slice none 0 0, .slice none 0 0, .string after.body, .int .i64 after.key, .string after.dig] 33))) := Lib.hid (HS.out.trans ((one_new y18 _).mono HS.out.size))
                try rw [← hBB]
                clear hBB
                generalize y18.alloc (.cells #[.int .i64 gone.author, .int .i64 gone.number, .string gone.prev, .int .i64 gone.time, .int .i64 gone.kind, .int .i64 gone.a, .int .i64 gone.b, .int .i64 gone.c, .slice none 0 0, .slice none 0 0, .string gone.body, .int .i64 gone.key, .string gone.dig, .int .i64 after.author, .int .i64 after.number, .string after.prev, .int .i64 after.time, .int .i64 after.kind, .int .i64 after.a, .int .i64 after.b, .int .i64 after.c, .slice none 0 0, .slice none 0 0, .string after.body, .int .i64 after.key, .string after.dig] 33) = y19 at HS XT XA HBL ⊢
                refine flow_one (F := Below n2) (fun _ _ _ h k => Below.trans h k) (fun _ => Below.refl _ _) 31 (by kernel_rfl) (by decide) ?_
                simp only [pick, List.getD_cons_zero, List.getD_cons_succ]
                go_wp2_with (at_builtin; go_must (refine wpList_appG y19 rfl (.tmp 132) (.tmp 135) 27 27 33 rfl B1 Tryd.underlying27 stm_info rfl _ (q + 1) (stmsC l) XA.out rfl (.slice (some ⟨BT, 0, none⟩) 2 2) 2 (stmsC [gone, after]) (Row.src (show SRow y19 (some ⟨BT, 0, none⟩) 2 2 [gone, after] from Row.of_block XT.out rfl) Tryd.underlying27 (stmsC_one _)) rfl (by unfold maxLen; omega) (by omega) HBL.out ?_); intro v4 y20 ho hb; rw [← stmsC_app] at ho; obtain ⟨A4, c4, hv4, hr4⟩ := Row.of_own ho; subst hv4; have XN : Hid (SRow y20 A4 (q + 1 + 2) c4 ((l ++ [gone]) ++ [after])) := Lib.hid (by rw [List.append_assoc]; exact hr4); have HBx := Lib.hid hb; clear ho hb hr4)
                refine pieceEnd_normal ⟨HBx.out.mono (by have h1 := HN0.out; have h2 := HBA.out; omega), ?_⟩
                replace HS := Lib.hid (HS.out.trans (HBx.out.mono HBA.out))
                clear HBx XA XT HBA HBL
                refine flow_one (F := Below n2) (fun _ _ _ h k => Below.trans h k) (fun _ => Below.refl _ _) 32 (by kernel_rfl) (by decide) ?_
                simp only [pick, List.getD_cons_zero, List.getD_cons_succ]
                go_wp2_with fail
                refine (HCA.out y20 A4 (q + 1 + 2) c4 (HB0.out.trans (HS.out.mono HB0.out.size)) XN.out).mono ?_
                rintro e y21 ⟨A6, c6, rfl, hb⟩
                have hf : Below n2 _ _ := hb.mono (by have h1 := HN0.out; have h2 := HS.out.size; omega)
                replace HS := Lib.hid (HS.out.trans (hb.mono HS.out.size))
                clear hb
                go_wp2_with fail
                refine pieceEnd_normal ⟨hf, ?_⟩
                clear hf
                clear XN
                refine flow_reads (F := Below n2) (fun _ => Below.refl _ _) (by kernel_rfl) [33, 37, 38, 39] (fuel := 0) (by kernel_rfl) ?_
                simp only [List.map_cons, List.map_nil, pick, List.getD_cons_zero, List.getD_cons_succ]
                repeat (go_big_quiet_step (fail))
                refine wpQuiet_nil ?_
                refine flow_done (by kernel_rfl) ?_
                refine HK19 _ _ ?_
                go_wp2_with fail
                go_ret
                exact ⟨rfl, HB0.out.trans (HS.out.mono HB0.out.size)⟩
              · go_wp2_with fail
                refine pieceEnd_normal ⟨(one_new y17 _).mono (by have h1 := HN0.out; have h2 := HS.out.size; omega), ?_⟩
                obtain ⟨BT, hBB⟩ : ∃ B, B = y17.heap.size := ⟨_, rfl⟩
                have XT : Hid ((y17.alloc (.cells #[.int .i64 gone.author, .int .i64 gone.number, .string gone.prev, .int .i64 gone.time, .int .i64 gone.kind, .int .i64 gone.a, .int .i64 gone.b, .int .i64 gone.c, .slice none 0 0, .slice none 0 0, .string gone.body, .int .i64 gone.key, .string gone.dig, .int .i64 after.author, .int .i64 after.number, .string after.prev, .int .i64 after.time, .int .i64 after.kind, .int .i64 after.a, .int .i64 after.b, .int .i64 after.c, .slice none 0 0, .slice none 0 0, .string after.body, .int .i64 after.key, .string after.dig] 33)).heap[BT]? = some (.cells #[.int .i64 gone.author, .int .i64 gone.number, .string gone.prev, .int .i64 gone.time, .int .i64 gone.kind, .int .i64 gone.a, .int .i64 gone.b, .int .i64 gone.c, .slice none 0 0, .slice none 0 0, .string gone.body, .int .i64 gone.key, .string gone.dig, .int .i64 after.author, .int .i64 after.number, .string after.prev, .int .i64 after.time, .int .i64 after.kind, .int .i64 after.a, .int .i64 after.b, .int .i64 after.c, .slice none 0 0, .slice none 0 0, .string after.body, .int .i64 after.key, .string after.dig] 33 (0, 0))) := Lib.hid (by rw [hBB]; exact heap_alloc_new _ _)
                replace HS : Hid (Below p0.heap.size p0 (y17.alloc (.cells #[.int .i64 gone.author, .int .i64 gone.number, .string gone.prev, .int .i64 gone.time, .int .i64 gone.kind, .int .i64 gone.a, .int .i64 gone.b, .int .i64 gone.c, .slice none 0 0, .slice none 0 0, .string gone.body, .int .i64 gone.key, .string gone.dig, .int .i64 after.author, .int .i64 after.number, .string after.prev, .int .i64 after.time, .int .i64 after.kind, .int .i64 after.a, .int .i64 after.b, .int .i64 after.c, .slice none 0 0, .slice none 0 0, .string after.body, .int .i64 after.key, .string after.dig] 33))) := Lib.hid (HS.out.trans ((one_new y17 _).mono HS.out.size))
                try rw [← hBB]
                clear hBB
                generalize y17.alloc (.cells #[.int .i64 gone.author, .int .i64 gone.number, .string gone.prev, .int .i64 gone.time, .int .i64 gone.kind, .int .i64 gone.a, .int .i64 gone.b, .int .i64 gone.c, .slice none 0 0, .slice none 0 0, .string gone.body, .int .i64 gone.key, .string gone.dig, .int .i64 after.author, .int .i64 after.number, .string after.prev, .int .i64 after.time, .int .i64 after.kind, .int .i64 after.a, .int .i64 after.b, .int .i64 after.c, .slice none 0 0, .slice none 0 0, .string after.body, .int .i64 after.key, .string after.dig] 33) = y22 at HS XT ⊢
                refine flow_one (F := Below n2) (fun _ _ _ h k => Below.trans h k) (fun _ => Below.refl _ _) 27 (by kernel_rfl) (by decide) ?_
                simp only [pick, List.getD_cons_zero, List.getD_cons_succ]
                go_wp2_with (at_builtin; go_must (refine wpList_appG y22 rfl (.const (.slice none 0 0)) (.tmp 131) 27 27 33 rfl y22.heap.size Tryd.underlying27 stm_info rfl _ 0 [] (World.ownsRow_nil _ _ _ _) rfl (.slice (some ⟨b, off, none⟩) (q + 1) cp) (q + 1) (stmsC l) (Row.src (HR0.out.later HS.out) Tryd.underlying27 (stmsC_one _)) rfl (by unfold maxLen; omega) (by omega) (Nat.le_refl _) ?_); intro v2 y23 ho hb; rw [Nat.zero_add, List.nil_append] at ho; obtain ⟨A2, c2, hv2, hr2⟩ := Row.of_own ho; subst hv2; have HOx := Lib.hid ho; have HBx := Lib.hid hb; clear ho hb hr2)
                refine pieceEnd_normal ⟨HBx.out.mono (by have h1 := HN0.out; have h2 := HS.out.size; omega), ?_⟩
                obtain ⟨B1, hB1⟩ : ∃ B1, B1 = y22.heap.size := ⟨_, rfl⟩
                have XA : Hid (y23.ownsRow B1 33 13 (.slice A2 (q + 1) c2) (q + 1) (stmsC l)) := Lib.hid (by rw [hB1]; exact HOx.out)
                have HBA : Hid (p0.heap.size ≤ B1) := Lib.hid (by rw [hB1]; exact HS.out.size)
                have HBL : Hid (B1 ≤ y23.heap.size) := Lib.hid (by rw [hB1]; exact HBx.out.size)
                replace XT := Lib.hid ((HBx.out.block _ (Array.getElem?_eq_some_iff.1 XT.out).1).trans XT.out)
                replace HS := Lib.hid (HS.out.trans (HBx.out.mono HS.out.size))
                clear HOx HBx hB1
                refine flow_one (F := Below n2) (fun _ _ _ h k => Below.trans h k) (fun _ => Below.refl _ _) 31 (by kernel_rfl) (by decide) ?_
                simp only [pick, List.getD_cons_zero, List.getD_cons_succ]
                go_wp2_with (at_builtin; go_must (refine wpList_appG y23 rfl (.tmp 132) (.tmp 135) 27 27 33 rfl B1 Tryd.underlying27 stm_info rfl _ (q + 1) (stmsC l) XA.out rfl (.slice (some ⟨BT, 0, none⟩) 2 2) 2 (stmsC [gone, after]) (Row.src (show SRow y23 (some ⟨BT, 0, none⟩) 2 2 [gone, after] from Row.of_block XT.out rfl) Tryd.underlying27 (stmsC_one _)) rfl (by unfold maxLen; omega) (by omega) HBL.out ?_); intro v4 y24 ho hb; rw [← stmsC_app] at ho; obtain ⟨A4, c4, hv4, hr4⟩ := Row.of_own ho; subst hv4; have XN : Hid (SRow y24 A4 (q + 1 + 2) c4 ((l ++ [gone]) ++ [after])) := Lib.hid (by rw [List.append_assoc]; exact hr4); have HBx := Lib.hid hb; clear ho hb hr4)
                refine pieceEnd_normal ⟨HBx.out.mono (by have h1 := HN0.out; have h2 := HBA.out; omega), ?_⟩
                replace HS := Lib.hid (HS.out.trans (HBx.out.mono HBA.out))
                clear HBx XA XT HBA HBL
                refine flow_one (F := Below n2) (fun _ _ _ h k => Below.trans h k) (fun _ => Below.refl _ _) 32 (by kernel_rfl) (by decide) ?_
                simp only [pick, List.getD_cons_zero, List.getD_cons_succ]
                go_wp2_with fail
                refine (HCA.out y24 A4 (q + 1 + 2) c4 (HB0.out.trans (HS.out.mono HB0.out.size)) XN.out).mono ?_
                rintro e y25 ⟨A6, c6, rfl, hb⟩
                have hf : Below n2 _ _ := hb.mono (by have h1 := HN0.out; have h2 := HS.out.size; omega)
                replace HS := Lib.hid (HS.out.trans (hb.mono HS.out.size))
                clear hb
                go_wp2_with fail
                refine pieceEnd_normal ⟨hf, ?_⟩
                clear hf
                clear XN
                refine flow_reads (F := Below n2) (fun _ => Below.refl _ _) (by kernel_rfl) [33, 37, 38, 39] (fuel := 0) (by kernel_rfl) ?_
                simp only [List.map_cons, List.map_nil, pick, List.getD_cons_zero, List.getD_cons_succ]
                repeat (go_big_quiet_step (fail))
                refine wpQuiet_nil ?_
                refine flow_done (by kernel_rfl) ?_
                refine HK19 _ _ ?_
                go_wp2_with fail
                go_ret
                exact ⟨rfl, HB0.out.trans (HS.out.mono HB0.out.size)⟩)
          clear HK16
          have hcg : ∀ x, BoxS (fut (Below n1) z0 x) BG gone := fun x => XG0.out.later ((fut_ok (F := Below n1) (fun _ => Below.refl _ _) z0 x).mono (Nat.le_of_eq HN0.out.symm))
          have hr0 : ∀ x, (fut (Below n1) z0 x).cell? ⟨BG, 0, none⟩ = some (.int .i64 gone.author) := fun x => (cell_of_row _ _ 0 _ _ _ (hcg x)).trans rfl
          have hr1 : ∀ x, (fut (Below n1) z0 x).cell? ⟨BG, 1, none⟩ = some (.int .i64 gone.number) := fun x => (cell_of_row _ _ 1 _ _ _ (hcg x)).trans rfl
          have hr2 : ∀ x, (fut (Below n1) z0 x).cell? ⟨BG, 2, none⟩ = some (.string gone.prev) := fun x => (cell_of_row _ _ 2 _ _ _ (hcg x)).trans rfl
          have hr3 : ∀ x, (fut (Below n1) z0 x).cell? ⟨BG, 3, none⟩ = some (.int .i64 gone.time) := fun x => (cell_of_row _ _ 3 _ _ _ (hcg x)).trans rfl
          have hr4 : ∀ x, (fut (Below n1) z0 x).cell? ⟨BG, 4, none⟩ = some (.int .i64 gone.kind) := fun x => (cell_of_row _ _ 4 _ _ _ (hcg x)).trans rfl
          have hr5 : ∀ x, (fut (Below n1) z0 x).cell? ⟨BG, 5, none⟩ = some (.int .i64 gone.a) := fun x => (cell_of_row _ _ 5 _ _ _ (hcg x)).trans rfl
          have hr6 : ∀ x, (fut (Below n1) z0 x).cell? ⟨BG, 6, none⟩ = some (.int .i64 gone.b) := fun x => (cell_of_row _ _ 6 _ _ _ (hcg x)).trans rfl
          have hr7 : ∀ x, (fut (Below n1) z0 x).cell? ⟨BG, 7, none⟩ = some (.int .i64 gone.c) := fun x => (cell_of_row _ _ 7 _ _ _ (hcg x)).trans rfl
          have hr8 : ∀ x, (fut (Below n1) z0 x).cell? ⟨BG, 8, none⟩ = some (.slice none 0 0) := fun x => (cell_of_row _ _ 8 _ _ _ (hcg x)).trans rfl
          have hr9 : ∀ x, (fut (Below n1) z0 x).cell? ⟨BG, 9, none⟩ = some (.slice none 0 0) := fun x => (cell_of_row _ _ 9 _ _ _ (hcg x)).trans rfl
          have hr10 : ∀ x, (fut (Below n1) z0 x).cell? ⟨BG, 10, none⟩ = some (.string gone.body) := fun x => (cell_of_row _ _ 10 _ _ _ (hcg x)).trans rfl
          have hr11 : ∀ x, (fut (Below n1) z0 x).cell? ⟨BG, 11, none⟩ = some (.int .i64 gone.key) := fun x => (cell_of_row _ _ 11 _ _ _ (hcg x)).trans rfl
          have hr12 : ∀ x, (fut (Below n1) z0 x).cell? ⟨BG, 12, none⟩ = some (.string gone.dig) := fun x => (cell_of_row _ _ 12 _ _ _ (hcg x)).trans rfl
          clear hcg
          refine flow_reads (F := Below n1) (fun _ => Below.refl _ _) (by kernel_rfl) [0, 2] (fuel := 11) (by kernel_rfl) ?_
          simp only [List.map_cons, List.map_nil, pick, List.getD_cons_zero, List.getD_cons_succ]
          repeat (go_big_quiet_step (fail))
          refine wpQuiet_nil ?_
          clear hr0 hr1 hr2 hr3 hr4 hr5 hr6 hr7 hr8 hr9 hr10 hr11 hr12
          refine flow_val (F := Below n1) (fun _ => Below.refl _ _) (by kernel_rfl) 5 (by kernel_rfl) ?_
          simp only [pick, List.getD_cons_zero, List.getD_cons_succ]
          repeat (go_big_quiet_step (fail))
          refine wpQuiet_nil ?_
          refine flow_three (F := Below n1) (fun _ _ _ h k => Below.trans h k) (fun _ => Below.refl _ _) 1 3 10 (by kernel_rfl) (by decide) (by decide) (by decide) ?_ ?_ ?_ <;> simp only [pick, List.getD_cons_zero, List.getD_cons_succ]
          · go_wp2_with (at_builtin; go_must (refine wpList_app z0 rfl (.const (.slice none 0 0)) (.tmp 78) 27 27 33 rfl z0.heap.size Tryd.underlying27 stm_info rfl _ 0 [] (World.ownsRow_nil _ _ _ _) rfl (.slice (some ⟨b, off, none⟩) (q + 1) cp) (q + 1) (stmsC l) (Row.src (HR0.out.later HS.out) Tryd.underlying27 (stmsC_one _)) rfl (by unfold maxLen; omega) (by omega) (Nat.le_refl _) ?_); intro v2 y26 ho hb; rw [Nat.zero_add, List.nil_append] at ho; obtain ⟨A2, c2, hv2, hr2⟩ := Row.of_own ho; subst hv2; have HOx := Lib.hid ho; have HBx := Lib.hid hb; clear ho hb hr2)
            refine pieceEnd_normal ⟨HBx.out.mono (by have h1 := HN0.out; have h2 := HS.out.size; omega), ?_⟩
            obtain ⟨B1, hB1⟩ : ∃ B1, B1 = z0.heap.size := ⟨_, rfl⟩
            have XA : Hid (y26.ownsRow B1 33 13 (.slice A2 (q + 1) c2) (q + 1) (stmsC l)) := Lib.hid (by rw [hB1]; exact HOx.out)
            have HBA : Hid (z0.heap.size ≤ B1) := Lib.hid (by rw [hB1]; exact HS.out.size)
            have HBL : Hid (B1 ≤ y26.heap.size) := Lib.hid (by rw [hB1]; exact HBx.out.size)
            replace HS := Lib.hid (HS.out.trans (HBx.out.mono HS.out.size))
            clear HOx HBx hB1
            refine flow_two (F := Below n1) (fun _ _ _ h k => Below.trans h k) (fun _ => Below.refl _ _) 3 10 (by kernel_rfl) (by decide) (by decide) ?_ ?_ <;> simp only [pick, List.getD_cons_zero, List.getD_cons_succ]
            · go_wp2_with fail
              refine pieceEnd_normal ⟨(one_new y26 _).mono (by have h1 := HN0.out; have h2 := HS.out.size; omega), ?_⟩
              obtain ⟨BT, hBB⟩ : ∃ B, B = y26.heap.size := ⟨_, rfl⟩
              replace XA := Lib.hid (own_below XA.out (one_new y26 (.cells #[.int .i64 gone.author, .int .i64 gone.number, .string gone.prev, .int .i64 gone.time, .int .i64 gone.kind, .int .i64 gone.a, .int .i64 gone.b, .int .i64 gone.c, .slice none 0 0, .slice none 0 0, .string gone.body, .int .i64 gone.key, .string gone.dig] 33)) (own_lt XA.out)); replace HBL := Lib.hid (Nat.le_trans HBL.out (one_new y26 (.cells #[.int .i64 gone.author, .int .i64 gone.number, .string gone.prev, .int .i64 gone.time, .int .i64 gone.kind, .int .i64 gone.a, .int .i64 gone.b, .int .i64 gone.c, .slice none 0 0, .slice none 0 0, .string gone.body, .int .i64 gone.key, .string gone.dig] 33)).size)
              have XT : Hid ((y26.alloc (.cells #[.int .i64 gone.author, .int .i64 gone.number, .string gone.prev, .int .i64 gone.time, .int .i64 gone.kind, .int .i64 gone.a, .int .i64 gone.b, .int .i64 gone.c, .slice none 0 0, .slice none 0 0, .string gone.body, .int .i64 gone.key, .string gone.dig] 33)).heap[BT]? = some (.cells #[.int .i64 gone.author, .int .i64 gone.number, .string gone.prev, .int .i64 gone.time, .int .i64 gone.kind, .int .i64 gone.a, .int .i64 gone.b, .int .i64 gone.c, .slice none 0 0, .slice none 0 0, .string gone.body, .int .i64 gone.key, .string gone.dig] 33 (0, 0))) := Lib.hid (by rw [hBB]; exact heap_alloc_new _ _)
              replace HS : Hid (Below z0.heap.size z0 (y26.alloc (.cells #[.int .i64 gone.author, .int .i64 gone.number, .string gone.prev, .int .i64 gone.time, .int .i64 gone.kind, .int .i64 gone.a, .int .i64 gone.b, .int .i64 gone.c, .slice none 0 0, .slice none 0 0, .string gone.body, .int .i64 gone.key, .string gone.dig] 33))) := Lib.hid (HS.out.trans ((one_new y26 _).mono HS.out.size))
              try rw [← hBB]
              clear hBB
              generalize y26.alloc (.cells #[.int .i64 gone.author, .int .i64 gone.number, .string gone.prev, .int .i64 gone.time, .int .i64 gone.kind, .int .i64 gone.a, .int .i64 gone.b, .int .i64 gone.c, .slice none 0 0, .slice none 0 0, .string gone.body, .int .i64 gone.key, .string gone.dig] 33) = y27 at HS XT XA HBL ⊢
              refine flow_two (F := Below n1) (fun _ _ _ h k => Below.trans h k) (fun _ => Below.refl _ _) 4 10 (by kernel_rfl) (by decide) (by decide) ?_ ?_ <;> simp only [pick, List.getD_cons_zero, List.getD_cons_succ]
              · go_wp2_with (at_builtin; go_must (refine wpList_appK y27 rfl (.tmp 79) (.tmp 81) 27 27 33 rfl B1 Tryd.underlying27 stm_info rfl _ (q + 1) (stmsC l) XA.out rfl (.slice (some ⟨BT, 0, none⟩) 1 1) 1 (stmsC [gone]) (Row.src (show SRow y27 (some ⟨BT, 0, none⟩) 1 1 [gone] from Row.of_block XT.out rfl) Tryd.underlying27 (stmsC_one _)) rfl (by unfold maxLen; omega) (by omega) HBL.out ?_); intro v4 y28 ho hb hk; rw [← stmsC_app] at ho; obtain ⟨A4, c4, hv4, hr4⟩ := Row.of_own ho; subst hv4; have XN : Hid (SRow y28 A4 (q + 1 + 1) c4 (l ++ [gone])) := Lib.hid hr4; have HBx := Lib.hid hb; have HKx := Lib.hid hk; clear ho hb hk hr4)
                refine pieceEnd_normal ⟨HBx.out.mono (by have h1 := HN0.out; have h2 := HBA.out; omega), ?_⟩
                replace HS := Lib.hid (HS.out.trans (HBx.out.mono HBA.out))
                clear HBx HKx XA XT HBA HBL
                refine flow_two (F := Below n1) (fun _ _ _ h k => Below.trans h k) (fun _ => Below.refl _ _) 6 10 (by kernel_rfl) (by decide) (by decide) ?_ ?_ <;> simp only [pick, List.getD_cons_zero, List.getD_cons_succ]
                · go_wp2_with fail
                  refine (HN5.out y28 A4 (q + 1 + 1) c4 (HB0.out.trans (HS.out.mono HB0.out.size)) XN.out).mono ?_
                  rintro e y29 ⟨rfl, hb⟩
                  have hf : Below n1 _ _ := hb.mono (by have h1 := HN0.out; have h2 := HS.out.size; omega)
                  replace HS := Lib.hid (HS.out.trans (hb.mono HS.out.size))
                  clear hb
                  go_wp2_with fail
                  refine pieceEnd_normal ⟨hf, ?_⟩
                  clear hf
                  clear XN
                  refine flow_reads (F := Below n1) (fun _ => Below.refl _ _) (by kernel_rfl) [7, 8, 9] (fuel := 3) (by kernel_rfl) ?_
                  simp only [List.map_cons, List.map_nil, pick, List.getD_cons_zero, List.getD_cons_succ]
                  repeat (go_big_quiet_step (fail))
                  refine wpQuiet_nil ?_
                  refine flow_one (F := Below n1) (fun _ _ _ h k => Below.trans h k) (fun _ => Below.refl _ _) 10 (by kernel_rfl) (by decide) ?_
                  simp only [pick, List.getD_cons_zero, List.getD_cons_succ]
                  go_wp2_with fail
                  refine pieceEnd_normal ⟨(one_new y29 _).mono (by have h1 := HN0.out; have h2 := HS.out.size; omega), ?_⟩
                  obtain ⟨BV, hBB⟩ : ∃ B, B = y29.heap.size := ⟨_, rfl⟩
                  have XV : Hid ((y29.alloc (.cells #[.int .i64 0, .int .i64 0, .string ⟨#[]⟩, .int .i64 0, .int .i64 0, .int .i64 0, .int .i64 0, .int .i64 0, .slice none 0 0, .slice none 0 0, .string ⟨#[]⟩, .int .i64 0, .string ⟨#[]⟩] 33)).heap[BV]? = some (.cells #[.int .i64 0, .int .i64 0, .string ⟨#[]⟩, .int .i64 0, .int .i64 0, .int .i64 0, .int .i64 0, .int .i64 0, .slice none 0 0, .slice none 0 0, .string ⟨#[]⟩, .int .i64 0, .string ⟨#[]⟩] 33 (0, 0))) := Lib.hid (by rw [hBB]; exact heap_alloc_new _ _)
                  have HNV : Hid (z0.heap.size ≤ BV) := Lib.hid (by rw [hBB]; exact HS.out.size)
                  replace HS : Hid (Below z0.heap.size z0 (y29.alloc (.cells #[.int .i64 0, .int .i64 0, .string ⟨#[]⟩, .int .i64 0, .int .i64 0, .int .i64 0, .int .i64 0, .int .i64 0, .slice none 0 0, .slice none 0 0, .string ⟨#[]⟩, .int .i64 0, .string ⟨#[]⟩] 33))) := Lib.hid (HS.out.trans ((one_new y29 _).mono HS.out.size))
                  try rw [← hBB]
                  clear hBB
                  generalize y29.alloc (.cells #[.int .i64 0, .int .i64 0, .string ⟨#[]⟩, .int .i64 0, .int .i64 0, .int .i64 0, .int .i64 0, .int .i64 0, .slice none 0 0, .slice none 0 0, .string ⟨#[]⟩, .int .i64 0, .string ⟨#[]⟩] 33) = y30 at HS XV ⊢
                  refine flow_one (F := Below n1) (fun _ _ _ h k => Below.trans h k) (fun _ => Below.refl _ _) 11 (by kernel_rfl) (by decide) ?_
                  simp only [pick, List.getD_cons_zero, List.getD_cons_succ]
                  go_wp2_with (refine wpList_store_row rfl 33 (.tmp 16) (.tmp 85) rfl BV #[.int .i64 0, .int .i64 0, .string ⟨#[]⟩, .int .i64 0, .int .i64 0, .int .i64 0, .int .i64 0, .int .i64 0, .slice none 0 0, .slice none 0 0, .string ⟨#[]⟩, .int .i64 0, .string ⟨#[]⟩] rfl rfl 33 _ XV.out (by kernel_rfl) rfl (by simp [Value.oneCell']) ?_)
                  refine pieceEnd_normal ⟨below_setRow (Below.refl _ _) (by have h1 := HN0.out; have h2 := HNV.out; omega) _, ?_⟩
                  replace HS : Hid (Below z0.heap.size z0 (y30.setRow BV #[.int .i64 0, .int .i64 0, .string ⟨#[]⟩, .int .i64 0, .int .i64 0, .int .i64 0, .int .i64 0, .int .i64 0, .slice none 0 0, .slice none 0 0, .string ⟨#[]⟩, .int .i64 0, .string ⟨#[]⟩])) := Lib.hid (below_setRow HS.out HNV.out _)
                  clear XV HNV
                  generalize y30.setRow BV #[.int .i64 0, .int .i64 0, .string ⟨#[]⟩, .int .i64 0, .int .i64 0, .int .i64 0, .int .i64 0, .int .i64 0, .slice none 0 0, .slice none 0 0, .string ⟨#[]⟩, .int .i64 0, .string ⟨#[]⟩] = y31 at HS ⊢
                  refine flow_reads (F := Below n1) (fun _ => Below.refl _ _) (by kernel_rfl) [12] (fuel := 0) (by kernel_rfl) ?_
                  simp only [List.map_cons, List.map_nil, pick, List.getD_cons_zero, List.getD_cons_succ]
                  repeat (go_big_quiet_step (fail))
                  refine wpQuiet_nil ?_
                  refine flow_done (by kernel_rfl) ?_
                  exact HEND.out _ _ _ _ _ _ _ _ _ _ _ _ _ _ _ _ _ _ _ _ _ _ _ _ _ _ _ _ _ _ _ _ _ _ _ _ _ _ _ _ _ _ _ _ _ _ _ _ _ _ _ _ _ _ _ _ _ _ _ _ _ _ _ _ _ _ _ _ _ _ _ _ _ _ _ _ _ _ _ _ _ _ _ _ _ _ _ _ _ _ _ _ _ _ _ _ _ _ _ _ _ _ _ _ _ _ _ _ _ _ _ _ _ _ _ _ _ _ _ _ _ _ _ _ _ _ _ _ _ _ _ _ _ _ _ _ _ _ _ HS.out
                · go_wp2_with fail
                  refine pieceEnd_normal ⟨(one_new y28 _).mono (by have h1 := HN0.out; have h2 := HS.out.size; omega), ?_⟩
                  obtain ⟨BV, hBB⟩ : ∃ B, B = y28.heap.size := ⟨_, rfl⟩
                  replace XN := Lib.hid (SRow.later XN.out (one_new y28 (.cells #[.int .i64 0, .int .i64 0, .string ⟨#[]⟩, .int .i64 0, .int .i64 0, .int .i64 0, .int .i64 0, .int .i64 0, .slice none 0 0, .slice none 0 0, .string ⟨#[]⟩, .int .i64 0, .string ⟨#[]⟩] 33)))
                  have XV : Hid ((y28.alloc (.cells #[.int .i64 0, .int .i64 0, .string ⟨#[]⟩, .int .i64 0, .int .i64 0, .int .i64 0, .int .i64 0, .int .i64 0, .slice none 0 0, .slice none 0 0, .string ⟨#[]⟩, .int .i64 0, .string ⟨#[]⟩] 33)).heap[BV]? = some (.cells #[.int .i64 0, .int .i64 0, .string ⟨#[]⟩, .int .i64 0, .int .i64 0, .int .i64 0, .int .i64 0, .int .i64 0, .slice none 0 0, .slice none 0 0, .string ⟨#[]⟩, .int .i64 0, .string ⟨#[]⟩] 33 (0, 0))) := Lib.hid (by rw [hBB]; exact heap_alloc_new _ _)
                  have HNV : Hid (z0.heap.size ≤ BV) := Lib.hid (by rw [hBB]; exact HS.out.size)
                  replace HS : Hid (Below z0.heap.size z0 (y28.alloc (.cells #[.int .i64 0, .int .i64 0, .string ⟨#[]⟩, .int .i64 0, .int .i64 0, .int .i64 0, .int .i64 0, .int .i64 0, .slice none 0 0, .slice none 0 0, .string ⟨#[]⟩, .int .i64 0, .string ⟨#[]⟩] 33))) := Lib.hid (HS.out.trans ((one_new y28 _).mono HS.out.size))
                  try rw [← hBB]
                  clear hBB
                  generalize y28.alloc (.cells #[.int .i64 0, .int .i64 0, .string ⟨#[]⟩, .int .i64 0, .int .i64 0, .int .i64 0, .int .i64 0, .int .i64 0, .slice none 0 0, .slice none 0 0, .string ⟨#[]⟩, .int .i64 0, .string ⟨#[]⟩] 33) = y32 at HS XV XN ⊢
                  refine flow_one (F := Below n1) (fun _ _ _ h k => Below.trans h k) (fun _ => Below.refl _ _) 6 (by kernel_rfl) (by decide) ?_
                  simp only [pick, List.getD_cons_zero, List.getD_cons_succ]
                  go_wp2_with fail
                  refine (HN5.out y32 A4 (q + 1 + 1) c4 (HB0.out.trans (HS.out.mono HB0.out.size)) XN.out).mono ?_
                  rintro e y33 ⟨rfl, hb⟩
                  have hf : Below n1 _ _ := hb.mono (by have h1 := HN0.out; have h2 := HS.out.size; omega)
                  replace HS := Lib.hid (HS.out.trans (hb.mono HS.out.size))
                  replace XV := Lib.hid ((hb.block _ (Array.getElem?_eq_some_iff.1 XV.out).1).trans XV.out)
                  clear hb
                  go_wp2_with fail
                  refine pieceEnd_normal ⟨hf, ?_⟩
                  clear hf
                  clear XN
                  refine flow_reads (F := Below n1) (fun _ => Below.refl _ _) (by kernel_rfl) [7, 8, 9] (fuel := 2) (by kernel_rfl) ?_
                  simp only [List.map_cons, List.map_nil, pick, List.getD_cons_zero, List.getD_cons_succ]
                  repeat (go_big_quiet_step (fail))
                  refine wpQuiet_nil ?_
                  refine flow_one (F := Below n1) (fun _ _ _ h k => Below.trans h k) (fun _ => Below.refl _ _) 11 (by kernel_rfl) (by decide) ?_
                  simp only [pick, List.getD_cons_zero, List.getD_cons_succ]
                  go_wp2_with (refine wpList_store_row rfl 33 (.tmp 16) (.tmp 85) rfl BV #[.int .i64 0, .int .i64 0, .string ⟨#[]⟩, .int .i64 0, .int .i64 0, .int .i64 0, .int .i64 0, .int .i64 0, .slice none 0 0, .slice none 0 0, .string ⟨#[]⟩, .int .i64 0, .string ⟨#[]⟩] rfl rfl 33 _ XV.out (by kernel_rfl) rfl (by simp [Value.oneCell']) ?_)
                  refine pieceEnd_normal ⟨below_setRow (Below.refl _ _) (by have h1 := HN0.out; have h2 := HNV.out; omega) _, ?_⟩
                  replace HS : Hid (Below z0.heap.size z0 (y33.setRow BV #[.int .i64 0, .int .i64 0, .string ⟨#[]⟩, .int .i64 0, .int .i64 0, .int .i64 0, .int .i64 0, .int .i64 0, .slice none 0 0, .slice none 0 0, .string ⟨#[]⟩, .int .i64 0, .string ⟨#[]⟩])) := Lib.hid (below_setRow HS.out HNV.out _)
                  clear XV HNV
                  generalize y33.setRow BV #[.int .i64 0, .int .i64 0, .string ⟨#[]⟩, .int .i64 0, .int .i64 0, .int .i64 0, .int .i64 0, .int .i64 0, .slice none 0 0, .slice none 0 0, .string ⟨#[]⟩, .int .i64 0, .string ⟨#[]⟩] = y34 at HS ⊢
                  refine flow_reads (F := Below n1) (fun _ => Below.refl _ _) (by kernel_rfl) [12] (fuel := 0) (by kernel_rfl) ?_
                  simp only [List.map_cons, List.map_nil, pick, List.getD_cons_zero, List.getD_cons_succ]
                  repeat (go_big_quiet_step (fail))
                  refine wpQuiet_nil ?_
                  refine flow_done (by kernel_rfl) ?_
                  exact HEND.out _ _ _ _ _ _ _ _ _ _ _ _ _ _ _ _ _ _ _ _ _ _ _ _ _ _ _ _ _ _ _ _ _ _ _ _ _ _ _ _ _ _ _ _ _ _ _ _ _ _ _ _ _ _ _ _ _ _ _ _ _ _ _ _ _ _ _ _ _ _ _ _ _ _ _ _ _ _ _ _ _ _ _ _ _ _ _ _ _ _ _ _ _ _ _ _ _ _ _ _ _ _ _ _ _ _ _ _ _ _ _ _ _ _ _ _ _ _ _ _ _ _ _ _ _ _ _ _ _ _ _ _ _ _ _ _ _ _ _ HS.out
              · go_wp2_with fail
                refine pieceEnd_normal ⟨(one_new y27 _).mono (by have h1 := HN0.out; have h2 := HS.out.size; omega), ?_⟩
                obtain ⟨BV, hBB⟩ : ∃ B, B = y27.heap.size := ⟨_, rfl⟩
                have HNE : Hid (∀ k, Value.ownBlock (.slice A2 (q + 1) c2) = some k → k ≠ BV) := Lib.hid fun k e => by have h1 := own_lt XA.out k e; omega
                replace XA := Lib.hid (own_below XA.out (one_new y27 (.cells #[.int .i64 0, .int .i64 0, .string ⟨#[]⟩, .int .i64 0, .int .i64 0, .int .i64 0, .int .i64 0, .int .i64 0, .slice none 0 0, .slice none 0 0, .string ⟨#[]⟩, .int .i64 0, .string ⟨#[]⟩] 33)) (own_lt XA.out)); replace HBL := Lib.hid (Nat.le_trans HBL.out (one_new y27 (.cells #[.int .i64 0, .int .i64 0, .string ⟨#[]⟩, .int .i64 0, .int .i64 0, .int .i64 0, .int .i64 0, .int .i64 0, .slice none 0 0, .slice none 0 0, .string ⟨#[]⟩, .int .i64 0, .string ⟨#[]⟩] 33)).size)
                replace XT := Lib.hid (((one_new y27 (.cells #[.int .i64 0, .int .i64 0, .string ⟨#[]⟩, .int .i64 0, .int .i64 0, .int .i64 0, .int .i64 0, .int .i64 0, .slice none 0 0, .slice none 0 0, .string ⟨#[]⟩, .int .i64 0, .string ⟨#[]⟩] 33)).block _ (Array.getElem?_eq_some_iff.1 XT.out).1).trans XT.out)
                have XV : Hid ((y27.alloc (.cells #[.int .i64 0, .int .i64 0, .string ⟨#[]⟩, .int .i64 0, .int .i64 0, .int .i64 0, .int .i64 0, .int .i64 0, .slice none 0 0, .slice none 0 0, .string ⟨#[]⟩, .int .i64 0, .string ⟨#[]⟩] 33)).heap[BV]? = some (.cells #[.int .i64 0, .int .i64 0, .string ⟨#[]⟩, .int .i64 0, .int .i64 0, .int .i64 0, .int .i64 0, .int .i64 0, .slice none 0 0, .slice none 0 0, .string ⟨#[]⟩, .int .i64 0, .string ⟨#[]⟩] 33 (0, 0))) := Lib.hid (by rw [hBB]; exact heap_alloc_new _ _)
                have HNV : Hid (z0.heap.size ≤ BV) := Lib.hid (by rw [hBB]; exact HS.out.size)
                replace HS : Hid (Below z0.heap.size z0 (y27.alloc (.cells #[.int .i64 0, .int .i64 0, .string ⟨#[]⟩, .int .i64 0, .int .i64 0, .int .i64 0, .int .i64 0, .int .i64 0, .slice none 0 0, .slice none 0 0, .string ⟨#[]⟩, .int .i64 0, .string ⟨#[]⟩] 33))) := Lib.hid (HS.out.trans ((one_new y27 _).mono HS.out.size))
                try rw [← hBB]
                clear hBB
                generalize y27.alloc (.cells #[.int .i64 0, .int .i64 0, .string ⟨#[]⟩, .int .i64 0, .int .i64 0, .int .i64 0, .int .i64 0, .int .i64 0, .slice none 0 0, .slice none 0 0, .string ⟨#[]⟩, .int .i64 0, .string ⟨#[]⟩] 33) = y35 at HS XV XA HBL XT ⊢
                refine flow_one (F := Below n1) (fun _ _ _ h k => Below.trans h k) (fun _ => Below.refl _ _) 4 (by kernel_rfl) (by decide) ?_
                simp only [pick, List.getD_cons_zero, List.getD_cons_succ]
                go_wp2_with (at_builtin; go_must (refine wpList_appK y35 rfl (.tmp 79) (.tmp 81) 27 27 33 rfl B1 Tryd.underlying27 stm_info rfl _ (q + 1) (stmsC l) XA.out rfl (.slice (some ⟨BT, 0, none⟩) 1 1) 1 (stmsC [gone]) (Row.src (show SRow y35 (some ⟨BT, 0, none⟩) 1 1 [gone] from Row.of_block XT.out rfl) Tryd.underlying27 (stmsC_one _)) rfl (by unfold maxLen; omega) (by omega) HBL.out ?_); intro v4 y36 ho hb hk; rw [← stmsC_app] at ho; obtain ⟨A4, c4, hv4, hr4⟩ := Row.of_own ho; subst hv4; have XN : Hid (SRow y36 A4 (q + 1 + 1) c4 (l ++ [gone])) := Lib.hid hr4; have HBx := Lib.hid hb; have HKx := Lib.hid hk; clear ho hb hk hr4)
                refine pieceEnd_normal ⟨HBx.out.mono (by have h1 := HN0.out; have h2 := HBA.out; omega), ?_⟩
                replace XV := Lib.hid ((HKx.out BV (Array.getElem?_eq_some_iff.1 XV.out).1 (fun e => HNE.out BV e rfl)).trans XV.out)
                clear HNE
                replace HS := Lib.hid (HS.out.trans (HBx.out.mono HBA.out))
                clear HBx HKx XA XT HBA HBL
                refine flow_one (F := Below n1) (fun _ _ _ h k => Below.trans h k) (fun _ => Below.refl _ _) 6 (by kernel_rfl) (by decide) ?_
                simp only [pick, List.getD_cons_zero, List.getD_cons_succ]
                go_wp2_with fail
                refine (HN5.out y36 A4 (q + 1 + 1) c4 (HB0.out.trans (HS.out.mono HB0.out.size)) XN.out).mono ?_
                rintro e y37 ⟨rfl, hb⟩
                have hf : Below n1 _ _ := hb.mono (by have h1 := HN0.out; have h2 := HS.out.size; omega)
                replace HS := Lib.hid (HS.out.trans (hb.mono HS.out.size))
                replace XV := Lib.hid ((hb.block _ (Array.getElem?_eq_some_iff.1 XV.out).1).trans XV.out)
                clear hb
                go_wp2_with fail
                refine pieceEnd_normal ⟨hf, ?_⟩
                clear hf
                clear XN
                refine flow_reads (F := Below n1) (fun _ => Below.refl _ _) (by kernel_rfl) [7, 8, 9] (fuel := 2) (by kernel_rfl) ?_
                simp only [List.map_cons, List.map_nil, pick, List.getD_cons_zero, List.getD_cons_succ]
                repeat (go_big_quiet_step (fail))
                refine wpQuiet_nil ?_
                refine flow_one (F := Below n1) (fun _ _ _ h k => Below.trans h k) (fun _ => Below.refl _ _) 11 (by kernel_rfl) (by decide) ?_
                simp only [pick, List.getD_cons_zero, List.getD_cons_succ]
                go_wp2_with (refine wpList_store_row rfl 33 (.tmp 16) (.tmp 85) rfl BV #[.int .i64 0, .int .i64 0, .string ⟨#[]⟩, .int .i64 0, .int .i64 0, .int .i64 0, .int .i64 0, .int .i64 0, .slice none 0 0, .slice none 0 0, .string ⟨#[]⟩, .int .i64 0, .string ⟨#[]⟩] rfl rfl 33 _ XV.out (by kernel_rfl) rfl (by simp [Value.oneCell']) ?_)
                refine pieceEnd_normal ⟨below_setRow (Below.refl _ _) (by have h1 := HN0.out; have h2 := HNV.out; omega) _, ?_⟩
                replace HS : Hid (Below z0.heap.size z0 (y37.setRow BV #[.int .i64 0, .int .i64 0, .string ⟨#[]⟩, .int .i64 0, .int .i64 0, .int .i64 0, .int .i64 0, .int .i64 0, .slice none 0 0, .slice none 0 0, .string ⟨#[]⟩, .int .i64 0, .string ⟨#[]⟩])) := Lib.hid (below_setRow HS.out HNV.out _)
                clear XV HNV
                generalize y37.setRow BV #[.int .i64 0, .int .i64 0, .string ⟨#[]⟩, .int .i64 0, .int .i64 0, .int .i64 0, .int .i64 0, .int .i64 0, .slice none 0 0, .slice none 0 0, .string ⟨#[]⟩, .int .i64 0, .string ⟨#[]⟩] = y38 at HS ⊢
                refine flow_reads (F := Below n1) (fun _ => Below.refl _ _) (by kernel_rfl) [12] (fuel := 0) (by kernel_rfl) ?_
                simp only [List.map_cons, List.map_nil, pick, List.getD_cons_zero, List.getD_cons_succ]
                repeat (go_big_quiet_step (fail))
                refine wpQuiet_nil ?_
                refine flow_done (by kernel_rfl) ?_
                exact HEND.out _ _ _ _ _ _ _ _ _ _ _ _ _ _ _ _ _ _ _ _ _ _ _ _ _ _ _ _ _ _ _ _ _ _ _ _ _ _ _ _ _ _ _ _ _ _ _ _ _ _ _ _ _ _ _ _ _ _ _ _ _ _ _ _ _ _ _ _ _ _ _ _ _ _ _ _ _ _ _ _ _ _ _ _ _ _ _ _ _ _ _ _ _ _ _ _ _ _ _ _ _ _ _ _ _ _ _ _ _ _ _ _ _ _ _ _ _ _ _ _ _ _ _ _ _ _ _ _ _ _ _ _ _ _ _ _ _ _ _ HS.out
            · go_wp2_with fail
              refine pieceEnd_normal ⟨(one_new y26 _).mono (by have h1 := HN0.out; have h2 := HS.out.size; omega), ?_⟩
              obtain ⟨BV, hBB⟩ : ∃ B, B = y26.heap.size := ⟨_, rfl⟩
              have HNE : Hid (∀ k, Value.ownBlock (.slice A2 (q + 1) c2) = some k → k ≠ BV) := Lib.hid fun k e => by have h1 := own_lt XA.out k e; omega
              replace XA := Lib.hid (own_below XA.out (one_new y26 (.cells #[.int .i64 0, .int .i64 0, .string ⟨#[]⟩, .int .i64 0, .int .i64 0, .int .i64 0, .int .i64 0, .int .i64 0, .slice none 0 0, .slice none 0 0, .string ⟨#[]⟩, .int .i64 0, .string ⟨#[]⟩] 33)) (own_lt XA.out)); replace HBL := Lib.hid (Nat.le_trans HBL.out (one_new y26 (.cells #[.int .i64 0, .int .i64 0, .string ⟨#[]⟩, .int .i64 0, .int .i64 0, .int .i64 0, .int .i64 0, .int .i64 0, .slice none 0 0, .slice none 0 0, .string ⟨#[]⟩, .int .i64 0, .string ⟨#[]⟩] 33)).size)
              have XV : Hid ((y26.alloc (.cells #[.int .i64 0, .int .i64 0, .string ⟨#[]⟩, .int .i64 0, .int .i64 0, .int .i64 0, .int .i64 0, .int .i64 0, .slice none 0 0, .slice none 0 0, .string ⟨#[]⟩, .int .i64 0, .string ⟨#[]⟩] 33)).heap[BV]? = some (.cells #[.int .i64 0, .int .i64 0, .string ⟨#[]⟩, .int .i64 0, .int .i64 0, .int .i64 0, .int .i64 0, .int .i64 0, .slice none 0 0, .slice none 0 0, .string ⟨#[]⟩, .int .i64 0, .string ⟨#[]⟩] 33 (0, 0))) := Lib.hid (by rw [hBB]; exact heap_alloc_new _ _)
              have HNV : Hid (z0.heap.size ≤ BV) := Lib.hid (by rw [hBB]; exact HS.out.size)
              replace HS : Hid (Below z0.heap.size z0 (y26.alloc (.cells #[.int .i64 0, .int .i64 0, .string ⟨#[]⟩, .int .i64 0, .int .i64 0, .int .i64 0, .int .i64 0, .int .i64 0, .slice none 0 0, .slice none 0 0, .string ⟨#[]⟩, .int .i64 0, .string ⟨#[]⟩] 33))) := Lib.hid (HS.out.trans ((one_new y26 _).mono HS.out.size))
              try rw [← hBB]
              clear hBB
              generalize y26.alloc (.cells #[.int .i64 0, .int .i64 0, .string ⟨#[]⟩, .int .i64 0, .int .i64 0, .int .i64 0, .int .i64 0, .int .i64 0, .slice none 0 0, .slice none 0 0, .string ⟨#[]⟩, .int .i64 0, .string ⟨#[]⟩] 33) = y39 at HS XV XA HBL ⊢
              refine flow_one (F := Below n1) (fun _ _ _ h k => Below.trans h k) (fun _ => Below.refl _ _) 3 (by kernel_rfl) (by decide) ?_
              simp only [pick, List.getD_cons_zero, List.getD_cons_succ]
              go_wp2_with fail
              refine pieceEnd_normal ⟨(one_new y39 _).mono (by have h1 := HN0.out; have h2 := HS.out.size; omega), ?_⟩
              obtain ⟨BT, hBB⟩ : ∃ B, B = y39.heap.size := ⟨_, rfl⟩
              replace XA := Lib.hid (own_below XA.out (one_new y39 (.cells #[.int .i64 gone.author, .int .i64 gone.number, .string gone.prev, .int .i64 gone.time, .int .i64 gone.kind, .int .i64 gone.a, .int .i64 gone.b, .int .i64 gone.c, .slice none 0 0, .slice none 0 0, .string gone.body, .int .i64 gone.key, .string gone.dig] 33)) (own_lt XA.out)); replace HBL := Lib.hid (Nat.le_trans HBL.out (one_new y39 (.cells #[.int .i64 gone.author, .int .i64 gone.number, .string gone.prev, .int .i64 gone.time, .int .i64 gone.kind, .int .i64 gone.a, .int .i64 gone.b, .int .i64 gone.c, .slice none 0 0, .slice none 0 0, .string gone.body, .int .i64 gone.key, .string gone.dig] 33)).size)
              replace XV := Lib.hid (((one_new y39 (.cells #[.int .i64 gone.author, .int .i64 gone.number, .string gone.prev, .int .i64 gone.time, .int .i64 gone.kind, .int .i64 gone.a, .int .i64 gone.b, .int .i64 gone.c, .slice none 0 0, .slice none 0 0, .string gone.body, .int .i64 gone.key, .string gone.dig] 33)).block _ (Array.getElem?_eq_some_iff.1 XV.out).1).trans XV.out)
              have XT : Hid ((y39.alloc (.cells #[.int .i64 gone.author, .int .i64 gone.number, .string gone.prev, .int .i64 gone.time, .int .i64 gone.kind, .int .i64 gone.a, .int .i64 gone.b, .int .i64 gone.c, .slice none 0 0, .slice none 0 0, .string gone.body, .int .i64 gone.key, .string gone.dig] 33)).heap[BT]? = some (.cells #[.int .i64 gone.author, .int .i64 gone.number, .string gone.prev, .int .i64 gone.time, .int .i64 gone.kind, .int .i64 gone.a, .int .i64 gone.b, .int .i64 gone.c, .slice none 0 0, .slice none 0 0, .string gone.body, .int .i64 gone.key, .string gone.dig] 33 (0, 0))) := Lib.hid (by rw [hBB]; exact heap_alloc_new _ _)
              replace HS : Hid (Below z0.heap.size z0 (y39.alloc (.cells #[.int .i64 gone.author, .int .i64 gone.number, .string gone.prev, .int .i64 gone.time, .int .i64 gone.kind, .int .i64 gone.a, .int .i64 gone.b, .int .i64 gone.c, .slice none 0 0, .slice none 0 0, .string gone.body, .int .i64 gone.key, .string gone.dig] 33))) := Lib.hid (HS.out.trans ((one_new y39 _).mono HS.out.size))
              try rw [← hBB]
              clear hBB
              generalize y39.alloc (.cells #[.int .i64 gone.author, .int .i64 gone.number, .string gone.prev, .int .i64 gone.time, .int .i64 gone.kind, .int .i64 gone.a, .int .i64 gone.b, .int .i64 gone.c, .slice none 0 0, .slice none 0 0, .string gone.body, .int .i64 gone.key, .string gone.dig] 33) = y40 at HS XT XA HBL XV ⊢
              refine flow_one (F := Below n1) (fun _ _ _ h k => Below.trans h k) (fun _ => Below.refl _ _) 4 (by kernel_rfl) (by decide) ?_
              simp only [pick, List.getD_cons_zero, List.getD_cons_succ]
              go_wp2_with (at_builtin; go_must (refine wpList_appK y40 rfl (.tmp 79) (.tmp 81) 27 27 33 rfl B1 Tryd.underlying27 stm_info rfl _ (q + 1) (stmsC l) XA.out rfl (.slice (some ⟨BT, 0, none⟩) 1 1) 1 (stmsC [gone]) (Row.src (show SRow y40 (some ⟨BT, 0, none⟩) 1 1 [gone] from Row.of_block XT.out rfl) Tryd.underlying27 (stmsC_one _)) rfl (by unfold maxLen; omega) (by omega) HBL.out ?_); intro v4 y41 ho hb hk; rw [← stmsC_app] at ho; obtain ⟨A4, c4, hv4, hr4⟩ := Row.of_own ho; subst hv4; have XN : Hid (SRow y41 A4 (q + 1 + 1) c4 (l ++ [gone])) := Lib.hid hr4; have HBx := Lib.hid hb; have HKx := Lib.hid hk; clear ho hb hk hr4)
              refine pieceEnd_normal ⟨HBx.out.mono (by have h1 := HN0.out; have h2 := HBA.out; omega), ?_⟩
              replace XV := Lib.hid ((HKx.out BV (Array.getElem?_eq_some_iff.1 XV.out).1 (fun e => HNE.out BV e rfl)).trans XV.out)
              clear HNE
              replace HS := Lib.hid (HS.out.trans (HBx.out.mono HBA.out))
              clear HBx HKx XA XT HBA HBL
              refine flow_one (F := Below n1) (fun _ _ _ h k => Below.trans h k) (fun _ => Below.refl _ _) 6 (by kernel_rfl) (by decide) ?_
              simp only [pick, List.getD_cons_zero, List.getD_cons_succ]
              go_wp2_with fail
              refine (HN5.out y41 A4 (q + 1 + 1) c4 (HB0.out.trans (HS.out.mono HB0.out.size)) XN.out).mono ?_
              rintro e y42 ⟨rfl, hb⟩
              have hf : Below n1 _ _ := hb.mono (by have h1 := HN0.out; have h2 := HS.out.size; omega)
              replace HS := Lib.hid (HS.out.trans (hb.mono HS.out.size))
              replace XV := Lib.hid ((hb.block _ (Array.getElem?_eq_some_iff.1 XV.out).1).trans XV.out)
              clear hb
              go_wp2_with fail
              refine pieceEnd_normal ⟨hf, ?_⟩
              clear hf
              clear XN
              refine flow_reads (F := Below n1) (fun _ => Below.refl _ _) (by kernel_rfl) [7, 8, 9] (fuel := 2) (by kernel_rfl) ?_
              simp only [List.map_cons, List.map_nil, pick, List.getD_cons_zero, List.getD_cons_succ]
              repeat (go_big_quiet_step (fail))
              refine wpQuiet_nil ?_
              refine flow_one (F := Below n1) (fun _ _ _ h k => Below.trans h k) (fun _ => Below.refl _ _) 11 (by kernel_rfl) (by decide) ?_
              simp only [pick, List.getD_cons_zero, List.getD_cons_succ]
              go_wp2_with (refine wpList_store_row rfl 33 (.tmp 16) (.tmp 85) rfl BV #[.int .i64 0, .int .i64 0, .string ⟨#[]⟩, .int .i64 0, .int .i64 0, .int .i64 0, .int .i64 0, .int .i64 0, .slice none 0 0, .slice none 0 0, .string ⟨#[]⟩, .int .i64 0, .string ⟨#[]⟩] rfl rfl 33 _ XV.out (by kernel_rfl) rfl (by simp [Value.oneCell']) ?_)
              refine pieceEnd_normal ⟨below_setRow (Below.refl _ _) (by have h1 := HN0.out; have h2 := HNV.out; omega) _, ?_⟩
              replace HS : Hid (Below z0.heap.size z0 (y42.setRow BV #[.int .i64 0, .int .i64 0, .string ⟨#[]⟩, .int .i64 0, .int .i64 0, .int .i64 0, .int .i64 0, .int .i64 0, .slice none 0 0, .slice none 0 0, .string ⟨#[]⟩, .int .i64 0, .string ⟨#[]⟩])) := Lib.hid (below_setRow HS.out HNV.out _)
              clear XV HNV
              generalize y42.setRow BV #[.int .i64 0, .int .i64 0, .string ⟨#[]⟩, .int .i64 0, .int .i64 0, .int .i64 0, .int .i64 0, .int .i64 0, .slice none 0 0, .slice none 0 0, .string ⟨#[]⟩, .int .i64 0, .string ⟨#[]⟩] = y43 at HS ⊢
              refine flow_reads (F := Below n1) (fun _ => Below.refl _ _) (by kernel_rfl) [12] (fuel := 0) (by kernel_rfl) ?_
              simp only [List.map_cons, List.map_nil, pick, List.getD_cons_zero, List.getD_cons_succ]
              repeat (go_big_quiet_step (fail))
              refine wpQuiet_nil ?_
              refine flow_done (by kernel_rfl) ?_
              exact HEND.out _ _ _ _ _ _ _ _ _ _ _ _ _ _ _ _ _ _ _ _ _ _ _ _ _ _ _ _ _ _ _ _ _ _ _ _ _ _ _ _ _ _ _ _ _ _ _ _ _ _ _ _ _ _ _ _ _ _ _ _ _ _ _ _ _ _ _ _ _ _ _ _ _ _ _ _ _ _ _ _ _ _ _ _ _ _ _ _ _ _ _ _ _ _ _ _ _ _ _ _ _ _ _ _ _ _ _ _ _ _ _ _ _ _ _ _ _ _ _ _ _ _ _ _ _ _ _ _ _ _ _ _ _ _ _ _ _ _ _ HS.out
          · go_wp2_with fail
            refine pieceEnd_normal ⟨(one_new z0 _).mono (by have h1 := HN0.out; have h2 := HS.out.size; omega), ?_⟩
            obtain ⟨BT, hBB⟩ : ∃ B, B = z0.heap.size := ⟨_, rfl⟩
            have XT : Hid ((z0.alloc (.cells #[.int .i64 gone.author, .int .i64 gone.number, .string gone.prev, .int .i64 gone.time, .int .i64 gone.kind, .int .i64 gone.a, .int .i64 gone.b, .int .i64 gone.c, .slice none 0 0, .slice none 0 0, .string gone.body, .int .i64 gone.key, .string gone.dig] 33)).heap[BT]? = some (.cells #[.int .i64 gone.author, .int .i64 gone.number, .string gone.prev, .int .i64 gone.time, .int .i64 gone.kind, .int .i64 gone.a, .int .i64 gone.b, .int .i64 gone.c, .slice none 0 0, .slice none 0 0, .string gone.body, .int .i64 gone.key, .string gone.dig] 33 (0, 0))) := Lib.hid (by rw [hBB]; exact heap_alloc_new _ _)
            replace HS : Hid (Below z0.heap.size z0 (z0.alloc (.cells #[.int .i64 gone.author, .int .i64 gone.number, .string gone.prev, .int .i64 gone.time, .int .i64 gone.kind, .int .i64 gone.a, .int .i64 gone.b, .int .i64 gone.c, .slice none 0 0, .slice none 0 0, .string gone.body, .int .i64 gone.key, .string gone.dig] 33))) := Lib.hid (HS.out.trans ((one_new z0 _).mono HS.out.size))
            try rw [← hBB]
            clear hBB
            generalize z0.alloc (.cells #[.int .i64 gone.author, .int .i64 gone.number, .string gone.prev, .int .i64 gone.time, .int .i64 gone.kind, .int .i64 gone.a, .int .i64 gone.b, .int .i64 gone.c, .slice none 0 0, .slice none 0 0, .string gone.body, .int .i64 gone.key, .string gone.dig] 33) = y44 at HS XT ⊢
            refine flow_two (F := Below n1) (fun _ _ _ h k => Below.trans h k) (fun _ => Below.refl _ _) 1 10 (by kernel_rfl) (by decide) (by decide) ?_ ?_ <;> simp only [pick, List.getD_cons_zero, List.getD_cons_succ]
            · go_wp2_with (at_builtin; go_must (refine wpList_app y44 rfl (.const (.slice none 0 0)) (.tmp 78) 27 27 33 rfl y44.heap.size Tryd.underlying27 stm_info rfl _ 0 [] (World.ownsRow_nil _ _ _ _) rfl (.slice (some ⟨b, off, none⟩) (q + 1) cp) (q + 1) (stmsC l) (Row.src (HR0.out.later HS.out) Tryd.underlying27 (stmsC_one _)) rfl (by unfold maxLen; omega) (by omega) (Nat.le_refl _) ?_); intro v2 y45 ho hb; rw [Nat.zero_add, List.nil_append] at ho; obtain ⟨A2, c2, hv2, hr2⟩ := Row.of_own ho; subst hv2; have HOx := Lib.hid ho; have HBx := Lib.hid hb; clear ho hb hr2)
              refine pieceEnd_normal ⟨HBx.out.mono (by have h1 := HN0.out; have h2 := HS.out.size; omega), ?_⟩
              obtain ⟨B1, hB1⟩ : ∃ B1, B1 = y44.heap.size := ⟨_, rfl⟩
              have XA : Hid (y45.ownsRow B1 33 13 (.slice A2 (q + 1) c2) (q + 1) (stmsC l)) := Lib.hid (by rw [hB1]; exact HOx.out)
              have HBA : Hid (z0.heap.size ≤ B1) := Lib.hid (by rw [hB1]; exact HS.out.size)
              have HBL : Hid (B1 ≤ y45.heap.size) := Lib.hid (by rw [hB1]; exact HBx.out.size)
              replace XT := Lib.hid ((HBx.out.block _ (Array.getElem?_eq_some_iff.1 XT.out).1).trans XT.out)
              replace HS := Lib.hid (HS.out.trans (HBx.out.mono HS.out.size))
              clear HOx HBx hB1
              refine flow_two (F := Below n1) (fun _ _ _ h k => Below.trans h k) (fun _ => Below.refl _ _) 4 10 (by kernel_rfl) (by decide) (by decide) ?_ ?_ <;> simp only [pick, List.getD_cons_zero, List.getD_cons_succ]
              · go_wp2_with (at_builtin; go_must (refine wpList_appK y45 rfl (.tmp 79) (.tmp 81) 27 27 33 rfl B1 Tryd.underlying27 stm_info rfl _ (q + 1) (stmsC l) XA.out rfl (.slice (some ⟨BT, 0, none⟩) 1 1) 1 (stmsC [gone]) (Row.src (show SRow y45 (some ⟨BT, 0, none⟩) 1 1 [gone] from Row.of_block XT.out rfl) Tryd.underlying27 (stmsC_one _)) rfl (by unfold maxLen; omega) (by omega) HBL.out ?_); intro v4 y46 ho hb hk; rw [← stmsC_app] at ho; obtain ⟨A4, c4, hv4, hr4⟩ := Row.of_own ho; subst hv4; have XN : Hid (SRow y46 A4 (q + 1 + 1) c4 (l ++ [gone])) := Lib.hid hr4; have HBx := Lib.hid hb; have HKx := Lib.hid hk; clear ho hb hk hr4)
                refine pieceEnd_normal ⟨HBx.out.mono (by have h1 := HN0.out; have h2 := HBA.out; omega), ?_⟩
                replace HS := Lib.hid (HS.out.trans (HBx.out.mono HBA.out))
                clear HBx HKx XA XT HBA HBL
                refine flow_two (F := Below n1) (fun _ _ _ h k => Below.trans h k) (fun _ => Below.refl _ _) 6 10 (by kernel_rfl) (by decide) (by decide) ?_ ?_ <;> simp only [pick, List.getD_cons_zero, List.getD_cons_succ]
                · go_wp2_with fail
                  refine (HN5.out y46 A4 (q + 1 + 1) c4 (HB0.out.trans (HS.out.mono HB0.out.size)) XN.out).mono ?_
                  rintro e y47 ⟨rfl, hb⟩
                  have hf : Below n1 _ _ := hb.mono (by have h1 := HN0.out; have h2 := HS.out.size; omega)
                  replace HS := Lib.hid (HS.out.trans (hb.mono HS.out.size))
                  clear hb
                  go_wp2_with fail
                  refine pieceEnd_normal ⟨hf, ?_⟩
                  clear hf
                  clear XN
                  refine flow_reads (F := Below n1) (fun _ => Below.refl _ _) (by kernel_rfl) [7, 8, 9] (fuel := 3) (by kernel_rfl) ?_
                  simp only [List.map_cons, List.map_nil, pick, List.getD_cons_zero, List.getD_cons_succ]
                  repeat (go_big_quiet_step (fail))
                  refine wpQuiet_nil ?_
                  refine flow_one (F := Below n1) (fun _ _ _ h k => Below.trans h k) (fun _ => Below.refl _ _) 10 (by kernel_rfl) (by decide) ?_
                  simp only [pick, List.getD_cons_zero, List.getD_cons_succ]
                  go_wp2_with fail
                  refine pieceEnd_normal ⟨(one_new y47 _).mono (by have h1 := HN0.out; have h2 := HS.out.size; omega), ?_⟩
                  obtain ⟨BV, hBB⟩ : ∃ B, B = y47.heap.size := ⟨_, rfl⟩
                  have XV : Hid ((y47.alloc (.cells #[.int .i64 0, .int .i64 0, .string ⟨#[]⟩, .int .i64 0, .int .i64 0, .int .i64 0, .int .i64 0, .int .i64 0, .slice none 0 0, .slice none 0 0, .string ⟨#[]⟩, .int .i64 0, .string ⟨#[]⟩] 33)).heap[BV]? = some (.cells #[.int .i64 0, .int .i64 0, .string ⟨#[]⟩, .int .i64 0, .int .i64 0, .int .i64 0, .int .i64 0, .int .i64 0, .slice none 0 0, .slice none 0 0, .string ⟨#[]⟩, .int .i64 0, .string ⟨#[]⟩] 33 (0, 0))) := Lib.hid (by rw [hBB]; exact heap_alloc_new _ _)
                  have HNV : Hid (z0.heap.size ≤ BV) := Lib.hid (by rw [hBB]; exact HS.out.size)
                  replace HS : Hid (Below z0.heap.size z0 (y47.alloc (.cells #[.int .i64 0, .int .i64 0, .string ⟨#[]⟩, .int .i64 0, .int .i64 0, .int .i64 0, .int .i64 0, .int .i64 0, .slice none 0 0, .slice none 0 0, .string ⟨#[]⟩, .int .i64 0, .string ⟨#[]⟩] 33))) := Lib.hid (HS.out.trans ((one_new y47 _).mono HS.out.size))
                  try rw [← hBB]
                  clear hBB
                  generalize y47.alloc (.cells #[.int .i64 0, .int .i64 0, .string ⟨#[]⟩, .int .i64 0, .int .i64 0, .int .i64 0, .int .i64 0, .int .i64 0, .slice none 0 0, .slice none 0 0, .string ⟨#[]⟩, .int .i64 0, .string ⟨#[]⟩] 33) = y48 at HS XV ⊢
                  refine flow_one (F := Below n1) (fun _ _ _ h k => Below.trans h k) (fun _ => Below.refl _ _) 11 (by kernel_rfl) (by decide) ?_
                  simp only [pick, List.getD_cons_zero, List.getD_cons_succ]
                  go_wp2_with (refine wpList_store_row rfl 33 (.tmp 16) (.tmp 85) rfl BV #[.int .i64 0, .int .i64 0, .string ⟨#[]⟩, .int .i64 0, .int .i64 0, .int .i64 0, .int .i64 0, .int .i64 0, .slice none 0 0, .slice none 0 0, .string ⟨#[]⟩, .int .i64 0, .string ⟨#[]⟩] rfl rfl 33 _ XV.out (by kernel_rfl) rfl (by simp [Value.oneCell']) ?_)
                  refine pieceEnd_normal ⟨below_setRow (Below.refl _ _) (by have h1 := HN0.out; have h2 := HNV.out; omega) _, ?_⟩
                  replace HS : Hid (Below z0.heap.size z0 (y48.setRow BV #[.int .i64 0, .int .i64 0, .string ⟨#[]⟩, .int .i64 0, .int .i64 0, .int .i64 0, .int .i64 0, .int .i64 0, .slice none 0 0, .slice none 0 0, .string ⟨#[]⟩, .int .i64 0, .string ⟨#[]⟩])) := Lib.hid (below_setRow HS.out HNV.out _)
                  clear XV HNV
                  generalize y48.setRow BV #[.int .i64 0, .int .i64 0, .string ⟨#[]⟩, .int .i64 0, .int .i64 0, .int .i64 0, .int .i64 0, .int .i64 0, .slice none 0 0, .slice none 0 0, .string ⟨#[]⟩, .int .i64 0, .string ⟨#[]⟩] = y49 at HS ⊢
                  refine flow_reads (F := Below n1) (fun _ => Below.refl _ _) (by kernel_rfl) [12] (fuel := 0) (by kernel_rfl) ?_
                  simp only [List.map_cons, List.map_nil, pick, List.getD_cons_zero, List.getD_cons_succ]
                  repeat (go_big_quiet_step (fail))
                  refine wpQuiet_nil ?_
                  refine flow_done (by kernel_rfl) ?_
                  exact HEND.out _ _ _ _ _ _ _ _ _ _ _ _ _ _ _ _ _ _ _ _ _ _ _ _ _ _ _ _ _ _ _ _ _ _ _ _ _ _ _ _ _ _ _ _ _ _ _ _ _ _ _ _ _ _ _ _ _ _ _ _ _ _ _ _ _ _ _ _ _ _ _ _ _ _ _ _ _ _ _ _ _ _ _ _ _ _ _ _ _ _ _ _ _ _ _ _ _ _ _ _ _ _ _ _ _ _ _ _ _ _ _ _ _ _ _ _ _ _ _ _ _ _ _ _ _ _ _ _ _ _ _ _ _ _ _ _ _ _ _ HS.out
                · go_wp2_with fail
                  refine pieceEnd_normal ⟨(one_new y46 _).mono (by have h1 := HN0.out; have h2 := HS.out.size; omega), ?_⟩
                  obtain ⟨BV, hBB⟩ : ∃ B, B = y46.heap.size := ⟨_, rfl⟩
                  replace XN := Lib.hid (SRow.later XN.out (one_new y46 (.cells #[.int .i64 0, .int .i64 0, .string ⟨#[]⟩, .int .i64 0, .int .i64 0, .int .i64 0, .int .i64 0, .int .i64 0, .slice none 0 0, .slice none 0 0, .string ⟨#[]⟩, .int .i64 0, .string ⟨#[]⟩] 33)))
                  have XV : Hid ((y46.alloc (.cells #[.int .i64 0, .int .i64 0, .string ⟨#[]⟩, .int .i64 0, .int .i64 0, .int .i64 0, .int .i64 0, .int .i64 0, .slice none 0 0, .slice none 0 0, .string ⟨#[]⟩, .int .i64 0, .string ⟨#[]⟩] 33)).heap[BV]? = some (.cells #[.int .i64 0, .int .i64 0, .string ⟨#[]⟩, .int .i64 0, .int .i64 0, .int .i64 0, .int .i64 0, .int .i64 0, .slice none 0 0, .slice none 0 0, .string ⟨#[]⟩, .int .i64 0, .string ⟨#[]⟩] 33 (0, 0))) := Lib.hid (by rw [hBB]; exact heap_alloc_new _ _)
                  have HNV : Hid (z0.heap.size ≤ BV) := Lib.hid (by rw [hBB]; exact HS.out.size)
                  replace HS : Hid (Below z0.heap.size z0 (y46.alloc (.cells #[.int .i64 0, .int .i64 0, .string ⟨#[]⟩, .int .i64 0, .int .i64 0, .int .i64 0, .int .i64 0, .int .i64 0, .slice none 0 0, .slice none 0 0, .string ⟨#[]⟩, .int .i64 0, .string ⟨#[]⟩] 33))) := Lib.hid (HS.out.trans ((one_new y46 _).mono HS.out.size))
                  try rw [← hBB]
                  clear hBB
                  generalize y46.alloc (.cells #[.int .i64 0, .int .i64 0, .string ⟨#[]⟩, .int .i64 0, .int .i64 0, .int .i64 0, .int .i64 0, .int .i64 0, .slice none 0 0, .slice none 0 0, .string ⟨#[]⟩, .int .i64 0, .string ⟨#[]⟩] 33) = y50 at HS XV XN ⊢
                  refine flow_one (F := Below n1) (fun _ _ _ h k => Below.trans h k) (fun _ => Below.refl _ _) 6 (by kernel_rfl) (by decide) ?_
                  simp only [pick, List.getD_cons_zero, List.getD_cons_succ]
                  go_wp2_with fail
                  refine (HN5.out y50 A4 (q + 1 + 1) c4 (HB0.out.trans (HS.out.mono HB0.out.size)) XN.out).mono ?_
                  rintro e y51 ⟨rfl, hb⟩
                  have hf : Below n1 _ _ := hb.mono (by have h1 := HN0.out; have h2 := HS.out.size; omega)
                  replace HS := Lib.hid (HS.out.trans (hb.mono HS.out.size))
                  replace XV := Lib.hid ((hb.block _ (Array.getElem?_eq_some_iff.1 XV.out).1).trans XV.out)
                  clear hb
                  go_wp2_with fail
                  refine pieceEnd_normal ⟨hf, ?_⟩
                  clear hf
                  clear XN
                  refine flow_reads (F := Below n1) (fun _ => Below.refl _ _) (by kernel_rfl) [7, 8, 9] (fuel := 2) (by kernel_rfl) ?_
                  simp only [List.map_cons, List.map_nil, pick, List.getD_cons_zero, List.getD_cons_succ]
                  repeat (go_big_quiet_step (fail))
                  refine wpQuiet_nil ?_
                  refine flow_one (F := Below n1) (fun _ _ _ h k => Below.trans h k) (fun _ => Below.refl _ _) 11 (by kernel_rfl) (by decide) ?_
                  simp only [pick, List.getD_cons_zero, List.getD_cons_succ]
                  go_wp2_with (refine wpList_store_row rfl 33 (.tmp 16) (.tmp 85) rfl BV #[.int .i64 0, .int .i64 0, .string ⟨#[]⟩, .int .i64 0, .int .i64 0, .int .i64 0, .int .i64 0, .int .i64 0, .slice none 0 0, .slice none 0 0, .string ⟨#[]⟩, .int .i64 0, .string ⟨#[]⟩] rfl rfl 33 _ XV.out (by kernel_rfl) rfl (by simp [Value.oneCell']) ?_)
                  refine pieceEnd_normal ⟨below_setRow (Below.refl _ _) (by have h1 := HN0.out; have h2 := HNV.out; omega) _, ?_⟩
                  replace HS : Hid (Below z0.heap.size z0 (y51.setRow BV #[.int .i64 0, .int .i64 0, .string ⟨#[]⟩, .int .i64 0, .int .i64 0, .int .i64 0, .int .i64 0, .int .i64 0, .slice none 0 0, .slice none 0 0, .string ⟨#[]⟩, .int .i64 0, .string ⟨#[]⟩])) := Lib.hid (below_setRow HS.out HNV.out _)
                  clear XV HNV
                  generalize y51.setRow BV #[.int .i64 0, .int .i64 0, .string ⟨#[]⟩, .int .i64 0, .int .i64 0, .int .i64 0, .int .i64 0, .int .i64 0, .slice none 0 0, .slice none 0 0, .string ⟨#[]⟩, .int .i64 0, .string ⟨#[]⟩] = y52 at HS ⊢
                  refine flow_reads (F := Below n1) (fun _ => Below.refl _ _) (by kernel_rfl) [12] (fuel := 0) (by kernel_rfl) ?_
                  simp only [List.map_cons, List.map_nil, pick, List.getD_cons_zero, List.getD_cons_succ]
                  repeat (go_big_quiet_step (fail))
                  refine wpQuiet_nil ?_
                  refine flow_done (by kernel_rfl) ?_
                  exact HEND.out _ _ _ _ _ _ _ _ _ _ _ _ _ _ _ _ _ _ _ _ _ _ _ _ _ _ _ _ _ _ _ _ _ _ _ _ _ _ _ _ _ _ _ _ _ _ _ _ _ _ _ _ _ _ _ _ _ _ _ _ _ _ _ _ _ _ _ _ _ _ _ _ _ _ _ _ _ _ _ _ _ _ _ _ _ _ _ _ _ _ _ _ _ _ _ _ _ _ _ _ _ _ _ _ _ _ _ _ _ _ _ _ _ _ _ _ _ _ _ _ _ _ _ _ _ _ _ _ _ _ _ _ _ _ _ _ _ _ _ HS.out
              · go_wp2_with fail
                refine pieceEnd_normal ⟨(one_new y45 _).mono (by have h1 := HN0.out; have h2 := HS.out.size; omega), ?_⟩
                obtain ⟨BV, hBB⟩ : ∃ B, B = y45.heap.size := ⟨_, rfl⟩
                have HNE : Hid (∀ k, Value.ownBlock (.slice A2 (q + 1) c2) = some k → k ≠ BV) := Lib.hid fun k e => by have h1 := own_lt XA.out k e; omega
                replace XA := Lib.hid (own_below XA.out (one_new y45 (.cells #[.int .i64 0, .int .i64 0, .string ⟨#[]⟩, .int .i64 0, .int .i64 0, .int .i64 0, .int .i64 0, .int .i64 0, .slice none 0 0, .slice none 0 0, .string ⟨#[]⟩, .int .i64 0, .string ⟨#[]⟩] 33)) (own_lt XA.out)); replace HBL := Lib.hid (Nat.le_trans HBL.out (one_new y45 (.cells #[.int .i64 0, .int .i64 0, .string ⟨#[]⟩, .int .i64 0, .int .i64 0, .int .i64 0, .int .i64 0, .int .i64 0, .slice none 0 0, .slice none 0 0, .string ⟨#[]⟩, .int .i64 0, .string ⟨#[]⟩] 33)).size)
                replace XT := Lib.hid (((one_new y45 (.cells #[.int .i64 0, .int .i64 0, .string ⟨#[]⟩, .int .i64 0, .int .i64 0, .int .i64 0, .int .i64 0, .int .i64 0, .slice none 0 0, .slice none 0 0, .string ⟨#[]⟩, .int .i64 0, .string ⟨#[]⟩] 33)).block _ (Array.getElem?_eq_some_iff.1 XT.out).1).trans XT.out)
                have XV : Hid ((y45.alloc (.cells #[.int .i64 0, .int .i64 0, .string ⟨#[]⟩, .int .i64 0, .int .i64 0, .int .i64 0, .int .i64 0, .int .i64 0, .slice none 0 0, .slice none 0 0, .string ⟨#[]⟩, .int .i64 0, .string ⟨#[]⟩] 33)).heap[BV]? = some (.cells #[.int .i64 0, .int .i64 0, .string ⟨#[]⟩, .int .i64 0, .int .i64 0, .int .i64 0, .int .i64 0, .int .i64 0, .slice none 0 0, .slice none 0 0, .string ⟨#[]⟩, .int .i64 0, .string ⟨#[]⟩] 33 (0, 0))) := Lib.hid (by rw [hBB]; exact heap_alloc_new _ _)
                have HNV : Hid (z0.heap.size ≤ BV) := Lib.hid (by rw [hBB]; exact HS.out.size)
                replace HS : Hid (Below z0.heap.size z0 (y45.alloc (.cells #[.int .i64 0, .int .i64 0, .string ⟨#[]⟩, .int .i64 0, .int .i64 0, .int .i64 0, .int .i64 0, .int .i64 0, .slice none 0 0, .slice none 0 0, .string ⟨#[]⟩, .int .i64 0, .string ⟨#[]⟩] 33))) := Lib.hid (HS.out.trans ((one_new y45 _).mono HS.out.size))
                try rw [← hBB]
                clear hBB
                generalize y45.alloc (.cells #[.int .i64 0, .int .i64 0, .string ⟨#[]⟩, .int .i64 0, .int .i64 0, .int .i64 0, .int .i64 0, .int .i64 0, .slice none 0 0, .slice none 0 0, .string ⟨#[]⟩, .int .i64 0, .string ⟨#[]⟩] 33) = y53 at HS XV XA HBL XT ⊢
                refine flow_one (F := Below n1) (fun _ _ _ h k => Below.trans h k) (fun _ => Below.refl _ _) 4 (by kernel_rfl) (by decide) ?_
                simp only [pick, List.getD_cons_zero, List.getD_cons_succ]
                go_wp2_with (at_builtin; go_must (refine wpList_appK y53 rfl (.tmp 79) (.tmp 81) 27 27 33 rfl B1 Tryd.underlying27 stm_info rfl _ (q + 1) (stmsC l) XA.out rfl (.slice (some ⟨BT, 0, none⟩) 1 1) 1 (stmsC [gone]) (Row.src (show SRow y53 (some ⟨BT, 0, none⟩) 1 1 [gone] from Row.of_block XT.out rfl) Tryd.underlying27 (stmsC_one _)) rfl (by unfold maxLen; omega) (by omega) HBL.out ?_); intro v4 y54 ho hb hk; rw [← stmsC_app] at ho; obtain ⟨A4, c4, hv4, hr4⟩ := Row.of_own ho; subst hv4; have XN : Hid (SRow y54 A4 (q + 1 + 1) c4 (l ++ [gone])) := Lib.hid hr4; have HBx := Lib.hid hb; have HKx := Lib.hid hk; clear ho hb hk hr4)
                refine pieceEnd_normal ⟨HBx.out.mono (by have h1 := HN0.out; have h2 := HBA.out; omega), ?_⟩
                replace XV := Lib.hid ((HKx.out BV (Array.getElem?_eq_some_iff.1 XV.out).1 (fun e => HNE.out BV e rfl)).trans XV.out)
                clear HNE
                replace HS := Lib.hid (HS.out.trans (HBx.out.mono HBA.out))
                clear HBx HKx XA XT HBA HBL
                refine flow_one (F := Below n1) (fun _ _ _ h k => Below.trans h k) (fun _ => Below.refl _ _) 6 (by kernel_rfl) (by decide) ?_
                simp only [pick, List.getD_cons_zero, List.getD_cons_succ]
                go_wp2_with fail
                refine (HN5.out y54 A4 (q + 1 + 1) c4 (HB0.out.trans (HS.out.mono HB0.out.size)) XN.out).mono ?_
                rintro e y55 ⟨rfl, hb⟩
                have hf : Below n1 _ _ := hb.mono (by have h1 := HN0.out; have h2 := HS.out.size; omega)
                replace HS := Lib.hid (HS.out.trans (hb.mono HS.out.size))
                replace XV := Lib.hid ((hb.block _ (Array.getElem?_eq_some_iff.1 XV.out).1).trans XV.out)
                clear hb
                go_wp2_with fail
                refine pieceEnd_normal ⟨hf, ?_⟩
                clear hf
                clear XN
                refine flow_reads (F := Below n1) (fun _ => Below.refl _ _) (by kernel_rfl) [7, 8, 9] (fuel := 2) (by kernel_rfl) ?_
                simp only [List.map_cons, List.map_nil, pick, List.getD_cons_zero, List.getD_cons_succ]
                repeat (go_big_quiet_step (fail))
                refine wpQuiet_nil ?_
                refine flow_one (F := Below n1) (fun _ _ _ h k => Below.trans h k) (fun _ => Below.refl _ _) 11 (by kernel_rfl) (by decide) ?_
                simp only [pick, List.getD_cons_zero, List.getD_cons_succ]
                go_wp2_with (refine wpList_store_row rfl 33 (.tmp 16) (.tmp 85) rfl BV #[.int .i64 0, .int .i64 0, .string ⟨#[]⟩, .int .i64 0, .int .i64 0, .int .i64 0, .int .i64 0, .int .i64 0, .slice none 0 0, .slice none 0 0, .string ⟨#[]⟩, .int .i64 0, .string ⟨#[]⟩] rfl rfl 33 _ XV.out (by kernel_rfl) rfl (by simp [Value.oneCell']) ?_)
                refine pieceEnd_normal ⟨below_setRow (Below.refl _ _) (by have h1 := HN0.out; have h2 := HNV.out; omega) _, ?_⟩
                replace HS : Hid (Below z0.heap.size z0 (y55.setRow BV #[.int .i64 0, .int .i64 0, .string ⟨#[]⟩, .int .i64 0, .int .i64 0, .int .i64 0, .int .i64 0, .int .i64 0, .slice none 0 0, .slice none 0 0, .string ⟨#[]⟩, .int .i64 0, .string ⟨#[]⟩])) := Lib.hid (below_setRow HS.out HNV.out _)
                clear XV HNV
                generalize y55.setRow BV #[.int .i64 0, .int .i64 0, .string ⟨#[]⟩, .int .i64 0, .int .i64 0, .int .i64 0, .int .i64 0, .int .i64 0, .slice none 0 0, .slice none 0 0, .string ⟨#[]⟩, .int .i64 0, .string ⟨#[]⟩] = y56 at HS ⊢
                refine flow_reads (F := Below n1) (fun _ => Below.refl _ _) (by kernel_rfl) [12] (fuel := 0) (by kernel_rfl) ?_
                simp only [List.map_cons, List.map_nil, pick, List.getD_cons_zero, List.getD_cons_succ]
                repeat (go_big_quiet_step (fail))
                refine wpQuiet_nil ?_
                refine flow_done (by kernel_rfl) ?_
                exact HEND.out _ _ _ _ _ _ _ _ _ _ _ _ _ _ _ _ _ _ _ _ _ _ _ _ _ _ _ _ _ _ _ _ _ _ _ _ _ _ _ _ _ _ _ _ _ _ _ _ _ _ _ _ _ _ _ _ _ _ _ _ _ _ _ _ _ _ _ _ _ _ _ _ _ _ _ _ _ _ _ _ _ _ _ _ _ _ _ _ _ _ _ _ _ _ _ _ _ _ _ _ _ _ _ _ _ _ _ _ _ _ _ _ _ _ _ _ _ _ _ _ _ _ _ _ _ _ _ _ _ _ _ _ _ _ _ _ _ _ _ HS.out
            · go_wp2_with fail
              refine pieceEnd_normal ⟨(one_new y44 _).mono (by have h1 := HN0.out; have h2 := HS.out.size; omega), ?_⟩
              obtain ⟨BV, hBB⟩ : ∃ B, B = y44.heap.size := ⟨_, rfl⟩
              replace XT := Lib.hid (((one_new y44 (.cells #[.int .i64 0, .int .i64 0, .string ⟨#[]⟩, .int .i64 0, .int .i64 0, .int .i64 0, .int .i64 0, .int .i64 0, .slice none 0 0, .slice none 0 0, .string ⟨#[]⟩, .int .i64 0, .string ⟨#[]⟩] 33)).block _ (Array.getElem?_eq_some_iff.1 XT.out).1).trans XT.out)
              have XV : Hid ((y44.alloc (.cells #[.int .i64 0, .int .i64 0, .string ⟨#[]⟩, .int .i64 0, .int .i64 0, .int .i64 0, .int .i64 0, .int .i64 0, .slice none 0 0, .slice none 0 0, .string ⟨#[]⟩, .int .i64 0, .string ⟨#[]⟩] 33)).heap[BV]? = some (.cells #[.int .i64 0, .int .i64 0, .string ⟨#[]⟩, .int .i64 0, .int .i64 0, .int .i64 0, .int .i64 0, .int .i64 0, .slice none 0 0, .slice none 0 0, .string ⟨#[]⟩, .int .i64 0, .string ⟨#[]⟩] 33 (0, 0))) := Lib.hid (by rw [hBB]; exact heap_alloc_new _ _)
              have HNV : Hid (z0.heap.size ≤ BV) := Lib.hid (by rw [hBB]; exact HS.out.size)
              replace HS : Hid (Below z0.heap.size z0 (y44.alloc (.cells #[.int .i64 0, .int .i64 0, .string ⟨#[]⟩, .int .i64 0, .int .i64 0, .int .i64 0, .int .i64 0, .int .i64 0, .slice none 0 0, .slice none 0 0, .string ⟨#[]⟩, .int .i64 0, .string ⟨#[]⟩] 33))) := Lib.hid (HS.out.trans ((one_new y44 _).mono HS.out.size))
              try rw [← hBB]
              clear hBB
              generalize y44.alloc (.cells #[.int .i64 0, .int .i64 0, .string ⟨#[]⟩, .int .i64 0, .int .i64 0, .int .i64 0, .int .i64 0, .int .i64 0, .slice none 0 0, .slice none 0 0, .string ⟨#[]⟩, .int .i64 0, .string ⟨#[]⟩] 33) = y57 at HS XV XT ⊢
              refine flow_one (F := Below n1) (fun _ _ _ h k => Below.trans h k) (fun _ => Below.refl _ _) 1 (by kernel_rfl) (by decide) ?_
              simp only [pick, List.getD_cons_zero, List.getD_cons_succ]
              go_wp2_with (at_builtin; go_must (refine wpList_app y57 rfl (.const (.slice none 0 0)) (.tmp 78) 27 27 33 rfl y57.heap.size Tryd.underlying27 stm_info rfl _ 0 [] (World.ownsRow_nil _ _ _ _) rfl (.slice (some ⟨b, off, none⟩) (q + 1) cp) (q + 1) (stmsC l) (Row.src (HR0.out.later HS.out) Tryd.underlying27 (stmsC_one _)) rfl (by unfold maxLen; omega) (by omega) (Nat.le_refl _) ?_); intro v2 y58 ho hb; rw [Nat.zero_add, List.nil_append] at ho; obtain ⟨A2, c2, hv2, hr2⟩ := Row.of_own ho; subst hv2; have HOx := Lib.hid ho; have HBx := Lib.hid hb; clear ho hb hr2)
              refine pieceEnd_normal ⟨HBx.out.mono (by have h1 := HN0.out; have h2 := HS.out.size; omega), ?_⟩
              obtain ⟨B1, hB1⟩ : ∃ B1, B1 = y57.heap.size := ⟨_, rfl⟩
              have XA : Hid (y58.ownsRow B1 33 13 (.slice A2 (q + 1) c2) (q + 1) (stmsC l)) := Lib.hid (by rw [hB1]; exact HOx.out)
              have HBA : Hid (z0.heap.size ≤ B1) := Lib.hid (by rw [hB1]; exact HS.out.size)
              have HBL : Hid (B1 ≤ y58.heap.size) := Lib.hid (by rw [hB1]; exact HBx.out.size)
              have HNE : Hid (∀ k, Value.ownBlock (.slice A2 (q + 1) c2) = some k → k ≠ BV) := Lib.hid fun k e => by have h1 := (World.ownsRow.lt XA.out k e).1; have h2 := (Array.getElem?_eq_some_iff.1 XV.out).1; omega
              replace XV := Lib.hid ((HBx.out.block _ (Array.getElem?_eq_some_iff.1 XV.out).1).trans XV.out)
              replace XT := Lib.hid ((HBx.out.block _ (Array.getElem?_eq_some_iff.1 XT.out).1).trans XT.out)
              replace HS := Lib.hid (HS.out.trans (HBx.out.mono HS.out.size))
              clear HOx HBx hB1
              refine flow_one (F := Below n1) (fun _ _ _ h k => Below.trans h k) (fun _ => Below.refl _ _) 4 (by kernel_rfl) (by decide) ?_
              simp only [pick, List.getD_cons_zero, List.getD_cons_succ]
              go_wp2_with (at_builtin; go_must (refine wpList_appK y58 rfl (.tmp 79) (.tmp 81) 27 27 33 rfl B1 Tryd.underlying27 stm_info rfl _ (q + 1) (stmsC l) XA.out rfl (.slice (some ⟨BT, 0, none⟩) 1 1) 1 (stmsC [gone]) (Row.src (show SRow y58 (some ⟨BT, 0, none⟩) 1 1 [gone] from Row.of_block XT.out rfl) Tryd.underlying27 (stmsC_one _)) rfl (by unfold maxLen; omega) (by omega) HBL.out ?_); intro v4 y59 ho hb hk; rw [← stmsC_app] at ho; obtain ⟨A4, c4, hv4, hr4⟩ := Row.of_own ho; subst hv4; have XN : Hid (SRow y59 A4 (q + 1 + 1) c4 (l ++ [gone])) := Lib.hid hr4; have HBx := Lib.hid hb; have HKx := Lib.hid hk; clear ho hb hk hr4)
              refine pieceEnd_normal ⟨HBx.out.mono (by have h1 := HN0.out; have h2 := HBA.out; omega), ?_⟩
              replace XV := Lib.hid ((HKx.out BV (Array.getElem?_eq_some_iff.1 XV.out).1 (fun e => HNE.out BV e rfl)).trans XV.out)
              clear HNE
              replace HS := Lib.hid (HS.out.trans (HBx.out.mono HBA.out))
              clear HBx HKx XA XT HBA HBL
              refine flow_one (F := Below n1) (fun _ _ _ h k => Below.trans h k) (fun _ => Below.refl _ _) 6 (by kernel_rfl) (by decide) ?_
              simp only [pick, List.getD_cons_zero, List.getD_cons_succ]
              go_wp2_with fail
              refine (HN5.out y59 A4 (q + 1 + 1) c4 (HB0.out.trans (HS.out.mono HB0.out.size)) XN.out).mono ?_
              rintro e y60 ⟨rfl, hb⟩
              have hf : Below n1 _ _ := hb.mono (by have h1 := HN0.out; have h2 := HS.out.size; omega)
              replace HS := Lib.hid (HS.out.trans (hb.mono HS.out.size))
              replace XV := Lib.hid ((hb.block _ (Array.getElem?_eq_some_iff.1 XV.out).1).trans XV.out)
              clear hb
              go_wp2_with fail
              refine pieceEnd_normal ⟨hf, ?_⟩
              clear hf
              clear XN
              refine flow_reads (F := Below n1) (fun _ => Below.refl _ _) (by kernel_rfl) [7, 8, 9] (fuel := 2) (by kernel_rfl) ?_
              simp only [List.map_cons, List.map_nil, pick, List.getD_cons_zero, List.getD_cons_succ]
              repeat (go_big_quiet_step (fail))
              refine wpQuiet_nil ?_
              refine flow_one (F := Below n1) (fun _ _ _ h k => Below.trans h k) (fun _ => Below.refl _ _) 11 (by kernel_rfl) (by decide) ?_
              simp only [pick, List.getD_cons_zero, List.getD_cons_succ]
              go_wp2_with (refine wpList_store_row rfl 33 (.tmp 16) (.tmp 85) rfl BV #[.int .i64 0, .int .i64 0, .string ⟨#[]⟩, .int .i64 0, .int .i64 0, .int .i64 0, .int .i64 0, .int .i64 0, .slice none 0 0, .slice none 0 0, .string ⟨#[]⟩, .int .i64 0, .string ⟨#[]⟩] rfl rfl 33 _ XV.out (by kernel_rfl) rfl (by simp [Value.oneCell']) ?_)
              refine pieceEnd_normal ⟨below_setRow (Below.refl _ _) (by have h1 := HN0.out; have h2 := HNV.out; omega) _, ?_⟩
              replace HS : Hid (Below z0.heap.size z0 (y60.setRow BV #[.int .i64 0, .int .i64 0, .string ⟨#[]⟩, .int .i64 0, .int .i64 0, .int .i64 0, .int .i64 0, .int .i64 0, .slice none 0 0, .slice none 0 0, .string ⟨#[]⟩, .int .i64 0, .string ⟨#[]⟩])) := Lib.hid (below_setRow HS.out HNV.out _)
              clear XV HNV
              generalize y60.setRow BV #[.int .i64 0, .int .i64 0, .string ⟨#[]⟩, .int .i64 0, .int .i64 0, .int .i64 0, .int .i64 0, .int .i64 0, .slice none 0 0, .slice none 0 0, .string ⟨#[]⟩, .int .i64 0, .string ⟨#[]⟩] = y61 at HS ⊢
              refine flow_reads (F := Below n1) (fun _ => Below.refl _ _) (by kernel_rfl) [12] (fuel := 0) (by kernel_rfl) ?_
              simp only [List.map_cons, List.map_nil, pick, List.getD_cons_zero, List.getD_cons_succ]
              repeat (go_big_quiet_step (fail))
              refine wpQuiet_nil ?_
              refine flow_done (by kernel_rfl) ?_
              exact HEND.out _ _ _ _ _ _ _ _ _ _ _ _ _ _ _ _ _ _ _ _ _ _ _ _ _ _ _ _ _ _ _ _ _ _ _ _ _ _ _ _ _ _ _ _ _ _ _ _ _ _ _ _ _ _ _ _ _ _ _ _ _ _ _ _ _ _ _ _ _ _ _ _ _ _ _ _ _ _ _ _ _ _ _ _ _ _ _ _ _ _ _ _ _ _ _ _ _ _ _ _ _ _ _ _ _ _ _ _ _ _ _ _ _ _ _ _ _ _ _ _ _ _ _ _ _ _ _ _ _ _ _ _ _ _ _ _ _ _ _ HS.out
          · go_wp2_with fail
            refine pieceEnd_normal ⟨(one_new z0 _).mono (by have h1 := HN0.out; have h2 := HS.out.size; omega), ?_⟩
            obtain ⟨BV, hBB⟩ : ∃ B, B = z0.heap.size := ⟨_, rfl⟩
            have XV : Hid ((z0.alloc (.cells #[.int .i64 0, .int .i64 0, .string ⟨#[]⟩, .int .i64 0, .int .i64 0, .int .i64 0, .int .i64 0, .int .i64 0, .slice none 0 0, .slice none 0 0, .string ⟨#[]⟩, .int .i64 0, .string ⟨#[]⟩] 33)).heap[BV]? = some (.cells #[.int .i64 0, .int .i64 0, .string ⟨#[]⟩, .int .i64 0, .int .i64 0, .int .i64 0, .int .i64 0, .int .i64 0, .slice none 0 0, .slice none 0 0, .string ⟨#[]⟩, .int .i64 0, .string ⟨#[]⟩] 33 (0, 0))) := Lib.hid (by rw [hBB]; exact heap_alloc_new _ _)
            have HNV : Hid (z0.heap.size ≤ BV) := Lib.hid (by rw [hBB]; exact HS.out.size)
            replace HS : Hid (Below z0.heap.size z0 (z0.alloc (.cells #[.int .i64 0, .int .i64 0, .string ⟨#[]⟩, .int .i64 0, .int .i64 0, .int .i64 0, .int .i64 0, .int .i64 0, .slice none 0 0, .slice none 0 0, .string ⟨#[]⟩, .int .i64 0, .string ⟨#[]⟩] 33))) := Lib.hid (HS.out.trans ((one_new z0 _).mono HS.out.size))
            try rw [← hBB]
            clear hBB
            generalize z0.alloc (.cells #[.int .i64 0, .int .i64 0, .string ⟨#[]⟩, .int .i64 0, .int .i64 0, .int .i64 0, .int .i64 0, .int .i64 0, .slice none 0 0, .slice none 0 0, .string ⟨#[]⟩, .int .i64 0, .string ⟨#[]⟩] 33) = y62 at HS XV ⊢
            refine flow_two (F := Below n1) (fun _ _ _ h k => Below.trans h k) (fun _ => Below.refl _ _) 1 3 (by kernel_rfl) (by decide) (by decide) ?_ ?_ <;> simp only [pick, List.getD_cons_zero, List.getD_cons_succ]
            · go_wp2_with (at_builtin; go_must (refine wpList_app y62 rfl (.const (.slice none 0 0)) (.tmp 78) 27 27 33 rfl y62.heap.size Tryd.underlying27 stm_info rfl _ 0 [] (World.ownsRow_nil _ _ _ _) rfl (.slice (some ⟨b, off, none⟩) (q + 1) cp) (q + 1) (stmsC l) (Row.src (HR0.out.later HS.out) Tryd.underlying27 (stmsC_one _)) rfl (by unfold maxLen; omega) (by omega) (Nat.le_refl _) ?_); intro v2 y63 ho hb; rw [Nat.zero_add, List.nil_append] at ho; obtain ⟨A2, c2, hv2, hr2⟩ := Row.of_own ho; subst hv2; have HOx := Lib.hid ho; have HBx := Lib.hid hb; clear ho hb hr2)
              refine pieceEnd_normal ⟨HBx.out.mono (by have h1 := HN0.out; have h2 := HS.out.size; omega), ?_⟩
              obtain ⟨B1, hB1⟩ : ∃ B1, B1 = y62.heap.size := ⟨_, rfl⟩
              have XA : Hid (y63.ownsRow B1 33 13 (.slice A2 (q + 1) c2) (q + 1) (stmsC l)) := Lib.hid (by rw [hB1]; exact HOx.out)
              have HBA : Hid (z0.heap.size ≤ B1) := Lib.hid (by rw [hB1]; exact HS.out.size)
              have HBL : Hid (B1 ≤ y63.heap.size) := Lib.hid (by rw [hB1]; exact HBx.out.size)
              have HNE : Hid (∀ k, Value.ownBlock (.slice A2 (q + 1) c2) = some k → k ≠ BV) := Lib.hid fun k e => by have h1 := (World.ownsRow.lt XA.out k e).1; have h2 := (Array.getElem?_eq_some_iff.1 XV.out).1; omega
              replace XV := Lib.hid ((HBx.out.block _ (Array.getElem?_eq_some_iff.1 XV.out).1).trans XV.out)
              replace HS := Lib.hid (HS.out.trans (HBx.out.mono HS.out.size))
              clear HOx HBx hB1
              refine flow_one (F := Below n1) (fun _ _ _ h k => Below.trans h k) (fun _ => Below.refl _ _) 3 (by kernel_rfl) (by decide) ?_
              simp only [pick, List.getD_cons_zero, List.getD_cons_succ]
              go_wp2_with fail
              refine pieceEnd_normal ⟨(one_new y63 _).mono (by have h1 := HN0.out; have h2 := HS.out.size; omega), ?_⟩
              obtain ⟨BT, hBB⟩ : ∃ B, B = y63.heap.size := ⟨_, rfl⟩
              replace XA := Lib.hid (own_below XA.out (one_new y63 (.cells #[.int .i64 gone.author, .int .i64 gone.number, .string gone.prev, .int .i64 gone.time, .int .i64 gone.kind, .int .i64 gone.a, .int .i64 gone.b, .int .i64 gone.c, .slice none 0 0, .slice none 0 0, .string gone.body, .int .i64 gone.key, .string gone.dig] 33)) (own_lt XA.out)); replace HBL := Lib.hid (Nat.le_trans HBL.out (one_new y63 (.cells #[.int .i64 gone.author, .int .i64 gone.number, .string gone.prev, .int .i64 gone.time, .int .i64 gone.kind, .int .i64 gone.a, .int .i64 gone.b, .int .i64 gone.c, .slice none 0 0, .slice none 0 0, .string gone.body, .int .i64 gone.key, .string gone.dig] 33)).size)
              replace XV := Lib.hid (((one_new y63 (.cells #[.int .i64 gone.author, .int .i64 gone.number, .string gone.prev, .int .i64 gone.time, .int .i64 gone.kind, .int .i64 gone.a, .int .i64 gone.b, .int .i64 gone.c, .slice none 0 0, .slice none 0 0, .string gone.body, .int .i64 gone.key, .string gone.dig] 33)).block _ (Array.getElem?_eq_some_iff.1 XV.out).1).trans XV.out)
              have XT : Hid ((y63.alloc (.cells #[.int .i64 gone.author, .int .i64 gone.number, .string gone.prev, .int .i64 gone.time, .int .i64 gone.kind, .int .i64 gone.a, .int .i64 gone.b, .int .i64 gone.c, .slice none 0 0, .slice none 0 0, .string gone.body, .int .i64 gone.key, .string gone.dig] 33)).heap[BT]? = some (.cells #[.int .i64 gone.author, .int .i64 gone.number, .string gone.prev, .int .i64 gone.time, .int .i64 gone.kind, .int .i64 gone.a, .int .i64 gone.b, .int .i64 gone.c, .slice none 0 0, .slice none 0 0, .string gone.body, .int .i64 gone.key, .string gone.dig] 33 (0, 0))) := Lib.hid (by rw [hBB]; exact heap_alloc_new _ _)
              replace HS : Hid (Below z0.heap.size z0 (y63.alloc (.cells #[.int .i64 gone.author, .int .i64 gone.number, .string gone.prev, .int .i64 gone.time, .int .i64 gone.kind, .int .i64 gone.a, .int .i64 gone.b, .int .i64 gone.c, .slice none 0 0, .slice none 0 0, .string gone.body, .int .i64 gone.key, .string gone.dig] 33))) := Lib.hid (HS.out.trans ((one_new y63 _).mono HS.out.size))
              try rw [← hBB]
              clear hBB
              generalize y63.alloc (.cells #[.int .i64 gone.author, .int .i64 gone.number, .string gone.prev, .int .i64 gone.time, .int .i64 gone.kind, .int .i64 gone.a, .int .i64 gone.b, .int .i64 gone.c, .slice none 0 0, .slice none 0 0, .string gone.body, .int .i64 gone.key, .string gone.dig] 33) = y64 at HS XT XA HBL XV ⊢
              refine flow_one (F := Below n1) (fun _ _ _ h k => Below.trans h k) (fun _ => Below.refl _ _) 4 (by kernel_rfl) (by decide) ?_
              simp only [pick, List.getD_cons_zero, List.getD_cons_succ]
              go_wp2_with (at_builtin; go_must (refine wpList_appK y64 rfl (.tmp 79) (.tmp 81) 27 27 33 rfl B1 Tryd.underlying27 stm_info rfl _ (q + 1) (stmsC l) XA.out rfl (.slice (some ⟨BT, 0, none⟩) 1 1) 1 (stmsC [gone]) (Row.src (show SRow y64 (some ⟨BT, 0, none⟩) 1 1 [gone] from Row.of_block XT.out rfl) Tryd.underlying27 (stmsC_one _)) rfl (by unfold maxLen; omega) (by omega) HBL.out ?_); intro v4 y65 ho hb hk; rw [← stmsC_app] at ho; obtain ⟨A4, c4, hv4, hr4⟩ := Row.of_own ho; subst hv4; have XN : Hid (SRow y65 A4 (q + 1 + 1) c4 (l ++ [gone])) := Lib.hid hr4; have HBx := Lib.hid hb; have HKx := Lib.hid hk; clear ho hb hk hr4)
              refine pieceEnd_normal ⟨HBx.out.mono (by have h1 := HN0.out; have h2 := HBA.out; omega), ?_⟩
              replace XV := Lib.hid ((HKx.out BV (Array.getElem?_eq_some_iff.1 XV.out).1 (fun e => HNE.out BV e rfl)).trans XV.out)
              clear HNE
              replace HS := Lib.hid (HS.out.trans (HBx.out.mono HBA.out))
              clear HBx HKx XA XT HBA HBL
              refine flow_one (F := Below n1) (fun _ _ _ h k => Below.trans h k) (fun _ => Below.refl _ _) 6 (by kernel_rfl) (by decide) ?_
              simp only [pick, List.getD_cons_zero, List.getD_cons_succ]
              go_wp2_with fail
              refine (HN5.out y65 A4 (q + 1 + 1) c4 (HB0.out.trans (HS.out.mono HB0.out.size)) XN.out).mono ?_
              rintro e y66 ⟨rfl, hb⟩
              have hf : Below n1 _ _ := hb.mono (by have h1 := HN0.out; have h2 := HS.out.size; omega)
              replace HS := Lib.hid (HS.out.trans (hb.mono HS.out.size))
              replace XV := Lib.hid ((hb.block _ (Array.getElem?_eq_some_iff.1 XV.out).1).trans XV.out)
              clear hb
              go_wp2_with fail
              refine pieceEnd_normal ⟨hf, ?_⟩
              clear hf
              clear XN
              refine flow_reads (F := Below n1) (fun _ => Below.refl _ _) (by kernel_rfl) [7, 8, 9] (fuel := 2) (by kernel_rfl) ?_
              simp only [List.map_cons, List.map_nil, pick, List.getD_cons_zero, List.getD_cons_succ]
              repeat (go_big_quiet_step (fail))
              refine wpQuiet_nil ?_
              refine flow_one (F := Below n1) (fun _ _ _ h k => Below.trans h k) (fun _ => Below.refl _ _) 11 (by kernel_rfl) (by decide) ?_
              simp only [pick, List.getD_cons_zero, List.getD_cons_succ]
              go_wp2_with (refine wpList_store_row rfl 33 (.tmp 16) (.tmp 85) rfl BV #[.int .i64 0, .int .i64 0, .string ⟨#[]⟩, .int .i64 0, .int .i64 0, .int .i64 0, .int .i64 0, .int .i64 0, .slice none 0 0, .slice none 0 0, .string ⟨#[]⟩, .int .i64 0, .string ⟨#[]⟩] rfl rfl 33 _ XV.out (by kernel_rfl) rfl (by simp [Value.oneCell']) ?_)
              refine pieceEnd_normal ⟨below_setRow (Below.refl _ _) (by have h1 := HN0.out; have h2 := HNV.out; omega) _, ?_⟩
              replace HS : Hid (Below z0.heap.size z0 (y66.setRow BV #[.int .i64 0, .int .i64 0, .string ⟨#[]⟩, .int .i64 0, .int .i64 0, .int .i64 0, .int .i64 0, .int .i64 0, .slice none 0 0, .slice none 0 0, .string ⟨#[]⟩, .int .i64 0, .string ⟨#[]⟩])) := Lib.hid (below_setRow HS.out HNV.out _)
              clear XV HNV
              generalize y66.setRow BV #[.int .i64 0, .int .i64 0, .string ⟨#[]⟩, .int .i64 0, .int .i64 0, .int .i64 0, .int .i64 0, .int .i64 0, .slice none 0 0, .slice none 0 0, .string ⟨#[]⟩, .int .i64 0, .string ⟨#[]⟩] = y67 at HS ⊢
              refine flow_reads (F := Below n1) (fun _ => Below.refl _ _) (by kernel_rfl) [12] (fuel := 0) (by kernel_rfl) ?_
              simp only [List.map_cons, List.map_nil, pick, List.getD_cons_zero, List.getD_cons_succ]
              repeat (go_big_quiet_step (fail))
              refine wpQuiet_nil ?_
              refine flow_done (by kernel_rfl) ?_
              exact HEND.out _ _ _ _ _ _ _ _ _ _ _ _ _ _ _ _ _ _ _ _ _ _ _ _ _ _ _ _ _ _ _ _ _ _ _ _ _ _ _ _ _ _ _ _ _ _ _ _ _ _ _ _ _ _ _ _ _ _ _ _ _ _ _ _ _ _ _ _ _ _ _ _ _ _ _ _ _ _ _ _ _ _ _ _ _ _ _ _ _ _ _ _ _ _ _ _ _ _ _ _ _ _ _ _ _ _ _ _ _ _ _ _ _ _ _ _ _ _ _ _ _ _ _ _ _ _ _ _ _ _ _ _ _ _ _ _ _ _ _ HS.out
            · go_wp2_with fail
              refine pieceEnd_normal ⟨(one_new y62 _).mono (by have h1 := HN0.out; have h2 := HS.out.size; omega), ?_⟩
              obtain ⟨BT, hBB⟩ : ∃ B, B = y62.heap.size := ⟨_, rfl⟩
              replace XV := Lib.hid (((one_new y62 (.cells #[.int .i64 gone.author, .int .i64 gone.number, .string gone.prev, .int .i64 gone.time, .int .i64 gone.kind, .int .i64 gone.a, .int .i64 gone.b, .int .i64 gone.c, .slice none 0 0, .slice none 0 0, .string gone.body, .int .i64 gone.key, .string gone.dig] 33)).block _ (Array.getElem?_eq_some_iff.1 XV.out).1).trans XV.out)
              have XT : Hid ((y62.alloc (.cells #[.int .i64 gone.author, .int .i64 gone.number, .string gone.prev, .int .i64 gone.time, .int .i64 gone.kind, .int .i64 gone.a, .int .i64 gone.b, .int .i64 gone.c, .slice none 0 0, .slice none 0 0, .string gone.body, .int .i64 gone.key, .string gone.dig] 33)).heap[BT]? = some (.cells #[.int .i64 gone.author, .int .i64 gone.number, .string gone.prev, .int .i64 gone.time, .int .i64 gone.kind, .int .i64 gone.a, .int .i64 gone.b, .int .i64 gone.c, .slice none 0 0, .slice none 0 0, .string gone.body, .int .i64 gone.key, .string gone.dig] 33 (0, 0))) := Lib.hid (by rw [hBB]; exact heap_alloc_new _ _)
              replace HS : Hid (Below z0.heap.size z0 (y62.alloc (.cells #[.int .i64 gone.author, .int .i64 gone.number, .string gone.prev, .int .i64 gone.time, .int .i64 gone.kind, .int .i64 gone.a, .int .i64 gone.b, .int .i64 gone.c, .slice none 0 0, .slice none 0 0, .string gone.body, .int .i64 gone.key, .string gone.dig] 33))) := Lib.hid (HS.out.trans ((one_new y62 _).mono HS.out.size))
              try rw [← hBB]
              clear hBB
              generalize y62.alloc (.cells #[.int .i64 gone.author, .int .i64 gone.number, .string gone.prev, .int .i64 gone.time, .int .i64 gone.kind, .int .i64 gone.a, .int .i64 gone.b, .int .i64 gone.c, .slice none 0 0, .slice none 0 0, .string gone.body, .int .i64 gone.key, .string gone.dig] 33) = y68 at HS XT XV ⊢
              refine flow_one (F := Below n1) (fun _ _ _ h k => Below.trans h k) (fun _ => Below.refl _ _) 1 (by kernel_rfl) (by decide) ?_
              simp only [pick, List.getD_cons_zero, List.getD_cons_succ]
              go_wp2_with (at_builtin; go_must (refine wpList_app y68 rfl (.const (.slice none 0 0)) (.tmp 78) 27 27 33 rfl y68.heap.size Tryd.underlying27 stm_info rfl _ 0 [] (World.ownsRow_nil _ _ _ _) rfl (.slice (some ⟨b, off, none⟩) (q + 1) cp) (q + 1) (stmsC l) (Row.src (HR0.out.later HS.out) Tryd.underlying27 (stmsC_one _)) rfl (by unfold maxLen; omega) (by omega) (Nat.le_refl _) ?_); intro v2 y69 ho hb; rw [Nat.zero_add, List.nil_append] at ho; obtain ⟨A2, c2, hv2, hr2⟩ := Row.of_own ho; subst hv2; have HOx := Lib.hid ho; have HBx := Lib.hid hb; clear ho hb hr2)
              refine pieceEnd_normal ⟨HBx.out.mono (by have h1 := HN0.out; have h2 := HS.out.size; omega), ?_⟩
              obtain ⟨B1, hB1⟩ : ∃ B1, B1 = y68.heap.size := ⟨_, rfl⟩
              have XA : Hid (y69.ownsRow B1 33 13 (.slice A2 (q + 1) c2) (q + 1) (stmsC l)) := Lib.hid (by rw [hB1]; exact HOx.out)
              have HBA : Hid (z0.heap.size ≤ B1) := Lib.hid (by rw [hB1]; exact HS.out.size)
              have HBL : Hid (B1 ≤ y69.heap.size) := Lib.hid (by rw [hB1]; exact HBx.out.size)
              have HNE : Hid (∀ k, Value.ownBlock (.slice A2 (q + 1) c2) = some k → k ≠ BV) := Lib.hid fun k e => by have h1 := (World.ownsRow.lt XA.out k e).1; have h2 := (Array.getElem?_eq_some_iff.1 XV.out).1; omega
              replace XV := Lib.hid ((HBx.out.block _ (Array.getElem?_eq_some_iff.1 XV.out).1).trans XV.out)
              replace XT := Lib.hid ((HBx.out.block _ (Array.getElem?_eq_some_iff.1 XT.out).1).trans XT.out)
              replace HS := Lib.hid (HS.out.trans (HBx.out.mono HS.out.size))
              clear HOx HBx hB1
              refine flow_one (F := Below n1) (fun _ _ _ h k => Below.trans h k) (fun _ => Below.refl _ _) 4 (by kernel_rfl) (by decide) ?_
              simp only [pick, List.getD_cons_zero, List.getD_cons_succ]
              go_wp2_with (at_builtin; go_must (refine wpList_appK y69 rfl (.tmp 79) (.tmp 81) 27 27 33 rfl B1 Tryd.underlying27 stm_info rfl _ (q + 1) (stmsC l) XA.out rfl (.slice (some ⟨BT, 0, none⟩) 1 1) 1 (stmsC [gone]) (Row.src (show SRow y69 (some ⟨BT, 0, none⟩) 1 1 [gone] from Row.of_block XT.out rfl) Tryd.underlying27 (stmsC_one _)) rfl (by unfold maxLen; omega) (by omega) HBL.out ?_); intro v4 y70 ho hb hk; rw [← stmsC_app] at ho; obtain ⟨A4, c4, hv4, hr4⟩ := Row.of_own ho; subst hv4; have XN : Hid (SRow y70 A4 (q + 1 + 1) c4 (l ++ [gone])) := Lib.hid hr4; have HBx := Lib.hid hb; have HKx := Lib.hid hk; clear ho hb hk hr4)
              refine pieceEnd_normal ⟨HBx.out.mono (by have h1 := HN0.out; have h2 := HBA.out; omega), ?_⟩
              replace XV := Lib.hid ((HKx.out BV (Array.getElem?_eq_some_iff.1 XV.out).1 (fun e => HNE.out BV e rfl)).trans XV.out)
              clear HNE
              replace HS := Lib.hid (HS.out.trans (HBx.out.mono HBA.out))
              clear HBx HKx XA XT HBA HBL
              refine flow_one (F := Below n1) (fun _ _ _ h k => Below.trans h k) (fun _ => Below.refl _ _) 6 (by kernel_rfl) (by decide) ?_
              simp only [pick, List.getD_cons_zero, List.getD_cons_succ]
              go_wp2_with fail
              refine (HN5.out y70 A4 (q + 1 + 1) c4 (HB0.out.trans (HS.out.mono HB0.out.size)) XN.out).mono ?_
              rintro e y71 ⟨rfl, hb⟩
              have hf : Below n1 _ _ := hb.mono (by have h1 := HN0.out; have h2 := HS.out.size; omega)
              replace HS := Lib.hid (HS.out.trans (hb.mono HS.out.size))
              replace XV := Lib.hid ((hb.block _ (Array.getElem?_eq_some_iff.1 XV.out).1).trans XV.out)
              clear hb
              go_wp2_with fail
              refine pieceEnd_normal ⟨hf, ?_⟩
              clear hf
              clear XN
              refine flow_reads (F := Below n1) (fun _ => Below.refl _ _) (by kernel_rfl) [7, 8, 9] (fuel := 2) (by kernel_rfl) ?_
              simp only [List.map_cons, List.map_nil, pick, List.getD_cons_zero, List.getD_cons_succ]
              repeat (go_big_quiet_step (fail))
              refine wpQuiet_nil ?_
              refine flow_one (F := Below n1) (fun _ _ _ h k => Below.trans h k) (fun _ => Below.refl _ _) 11 (by kernel_rfl) (by decide) ?_
              simp only [pick, List.getD_cons_zero, List.getD_cons_succ]
              go_wp2_with (refine wpList_store_row rfl 33 (.tmp 16) (.tmp 85) rfl BV #[.int .i64 0, .int .i64 0, .string ⟨#[]⟩, .int .i64 0, .int .i64 0, .int .i64 0, .int .i64 0, .int .i64 0, .slice none 0 0, .slice none 0 0, .string ⟨#[]⟩, .int .i64 0, .string ⟨#[]⟩] rfl rfl 33 _ XV.out (by kernel_rfl) rfl (by simp [Value.oneCell']) ?_)
              refine pieceEnd_normal ⟨below_setRow (Below.refl _ _) (by have h1 := HN0.out; have h2 := HNV.out; omega) _, ?_⟩
              replace HS : Hid (Below z0.heap.size z0 (y71.setRow BV #[.int .i64 0, .int .i64 0, .string ⟨#[]⟩, .int .i64 0, .int .i64 0, .int .i64 0, .int .i64 0, .int .i64 0, .slice none 0 0, .slice none 0 0, .string ⟨#[]⟩, .int .i64 0, .string ⟨#[]⟩])) := Lib.hid (below_setRow HS.out HNV.out _)
              clear XV HNV
              generalize y71.setRow BV #[.int .i64 0, .int .i64 0, .string ⟨#[]⟩, .int .i64 0, .int .i64 0, .int .i64 0, .int .i64 0, .int .i64 0, .slice none 0 0, .slice none 0 0, .string ⟨#[]⟩, .int .i64 0, .string ⟨#[]⟩] = y72 at HS ⊢
              refine flow_reads (F := Below n1) (fun _ => Below.refl _ _) (by kernel_rfl) [12] (fuel := 0) (by kernel_rfl) ?_
              simp only [List.map_cons, List.map_nil, pick, List.getD_cons_zero, List.getD_cons_succ]
              repeat (go_big_quiet_step (fail))
              refine wpQuiet_nil ?_
              refine flow_done (by kernel_rfl) ?_
              exact HEND.out _ _ _ _ _ _ _ _ _ _ _ _ _ _ _ _ _ _ _ _ _ _ _ _ _ _ _ _ _ _ _ _ _ _ _ _ _ _ _ _ _ _ _ _ _ _ _ _ _ _ _ _ _ _ _ _ _ _ _ _ _ _ _ _ _ _ _ _ _ _ _ _ _ _ _ _ _ _ _ _ _ _ _ _ _ _ _ _ _ _ _ _ _ _ _ _ _ _ _ _ _ _ _ _ _ _ _ _ _ _ _ _ _ _ _ _ _ _ _ _ _ _ _ _ _ _ _ _ _ _ _ _ _ _ _ _ _ _ _ HS.out)
        clear HK14
        have hrd : ∀ x, (fut (Below n0) y0 x).cell? ⟨BZ, 3, none⟩ = some (.int .i64 (t0 : Int)) := fun x => by
          have h := cell_of_row _ _ 3 _ _ _ (XZ0.out.later ((fut_ok (F := Below n0) (fun _ => Below.refl _ _) y0 x).mono (Nat.le_of_eq HN0.out.symm)))
          rw [h]
          show some (Value.int .i64 z.time) = _
          rw [HZT.out]
        refine flow_reads (F := Below n0) (fun _ => Below.refl _ _) (by kernel_rfl) [0, 1, 2, 3, 4] (fuel := 10) (by kernel_rfl) ?_
        simp only [List.map_cons, List.map_nil, pick, List.getD_cons_zero, List.getD_cons_succ]
        repeat (go_big_quiet_step (fail))
        refine wpQuiet_nil ?_
        clear hrd
        refine flow_two (F := Below n0) (fun _ _ _ h k => Below.trans h k) (fun _ => Below.refl _ _) 5 12 (by kernel_rfl) (by decide) (by decide) ?_ ?_ <;> simp only [pick, List.getD_cons_zero, List.getD_cons_succ]
        · go_wp2_with fail
          refine (HMO.out y0).mono ?_
          rintro e y ⟨rfl, rfl⟩
          go_wp2_with fail
          refine pieceEnd_normal ⟨Below.refl _ _, ?_⟩
          refine flow_reads (F := Below n0) (fun _ => Below.refl _ _) (by kernel_rfl) [6] (fuel := 8) (by kernel_rfl) ?_
          simp only [List.map_cons, List.map_nil, pick, List.getD_cons_zero, List.getD_cons_succ]
          repeat (go_big_quiet_step (fail))
          refine wpQuiet_nil ?_
          refine flow_val (F := Below n0) (fun _ => Below.refl _ _) (by kernel_rfl) 7 (by kernel_rfl) ?_
          simp only [pick, List.getD_cons_zero, List.getD_cons_succ]
          repeat (go_big_quiet_step (fail))
          refine wpQuiet_nil ?_
          refine flow_two (F := Below n0) (fun _ _ _ h k => Below.trans h k) (fun _ => Below.refl _ _) 8 12 (by kernel_rfl) (by decide) (by decide) ?_ ?_ <;> simp only [pick, List.getD_cons_zero, List.getD_cons_succ]
          · go_wp2_with fail
            refine (HN9.out y0 (HB0.out.trans (HS.out.mono HB0.out.size)) (HR0.out.later HS.out) ((t0 : Int) - 1 - mo) (by omega)).mono ?_
            rintro e y73 ⟨rfl, hb⟩
            have hf : Below n0 _ _ := hb.mono (by have h1 := HN0.out; have h2 := HS.out.size; omega)
            replace HS := Lib.hid (HS.out.trans (hb.mono HS.out.size))
            clear hb
            go_wp2_with fail
            refine pieceEnd_normal ⟨hf, ?_⟩
            clear hf
            refine flow_reads (F := Below n0) (fun _ => Below.refl _ _) (by kernel_rfl) [9, 10, 11] (fuel := 3) (by kernel_rfl) ?_
            simp only [List.map_cons, List.map_nil, pick, List.getD_cons_zero, List.getD_cons_succ]
            repeat (go_big_quiet_step (fail))
            refine wpQuiet_nil ?_
            refine flow_one (F := Below n0) (fun _ _ _ h k => Below.trans h k) (fun _ => Below.refl _ _) 12 (by kernel_rfl) (by decide) ?_
            simp only [pick, List.getD_cons_zero, List.getD_cons_succ]
            go_wp2_with fail
            refine pieceEnd_normal ⟨(one_new y73 _).mono (by have h1 := HN0.out; have h2 := HS.out.size; omega), ?_⟩
            obtain ⟨BV, hBV⟩ : ∃ BV, BV = y73.heap.size := ⟨_, rfl⟩
            have XV : Hid ((y73.alloc (.cells #[.int .i64 0, .int .i64 0, .string ⟨#[]⟩, .int .i64 0, .int .i64 0, .int .i64 0, .int .i64 0, .int .i64 0, .slice none 0 0, .slice none 0 0, .string ⟨#[]⟩, .int .i64 0, .string ⟨#[]⟩] 33)).heap[BV]? = some (.cells #[.int .i64 0, .int .i64 0, .string ⟨#[]⟩, .int .i64 0, .int .i64 0, .int .i64 0, .int .i64 0, .int .i64 0, .slice none 0 0, .slice none 0 0, .string ⟨#[]⟩, .int .i64 0, .string ⟨#[]⟩] 33 (0, 0))) := Lib.hid (by rw [hBV]; exact heap_alloc_new _ _)
            have HNV : Hid (y0.heap.size ≤ BV) := Lib.hid (by rw [hBV]; exact HS.out.size)
            replace HS : Hid (Below y0.heap.size y0 (y73.alloc (.cells #[.int .i64 0, .int .i64 0, .string ⟨#[]⟩, .int .i64 0, .int .i64 0, .int .i64 0, .int .i64 0, .int .i64 0, .slice none 0 0, .slice none 0 0, .string ⟨#[]⟩, .int .i64 0, .string ⟨#[]⟩] 33))) := Lib.hid (HS.out.trans ((one_new y73 _).mono HS.out.size))
            try rw [← hBV]
            clear hBV
            generalize y73.alloc (.cells #[.int .i64 0, .int .i64 0, .string ⟨#[]⟩, .int .i64 0, .int .i64 0, .int .i64 0, .int .i64 0, .int .i64 0, .slice none 0 0, .slice none 0 0, .string ⟨#[]⟩, .int .i64 0, .string ⟨#[]⟩] 33) = y74 at HS XV ⊢
            refine flow_one (F := Below n0) (fun _ _ _ h k => Below.trans h k) (fun _ => Below.refl _ _) 13 (by kernel_rfl) (by decide) ?_
            simp only [pick, List.getD_cons_zero, List.getD_cons_succ]
            go_wp2_with (refine wpList_store_row rfl 33 (.tmp 12) (.tmp 67) rfl BV #[.int .i64 0, .int .i64 0, .string ⟨#[]⟩, .int .i64 0, .int .i64 0, .int .i64 0, .int .i64 0, .int .i64 0, .slice none 0 0, .slice none 0 0, .string ⟨#[]⟩, .int .i64 0, .string ⟨#[]⟩] rfl rfl 33 _ XV.out (by kernel_rfl) rfl (by simp [Value.oneCell']) ?_)
            refine pieceEnd_normal ⟨below_setRow (Below.refl _ _) (by have h1 := HN0.out; have h2 := HNV.out; omega) _, ?_⟩
            replace HS : Hid (Below y0.heap.size y0 (y74.setRow BV #[.int .i64 0, .int .i64 0, .string ⟨#[]⟩, .int .i64 0, .int .i64 0, .int .i64 0, .int .i64 0, .int .i64 0, .slice none 0 0, .slice none 0 0, .string ⟨#[]⟩, .int .i64 0, .string ⟨#[]⟩])) := Lib.hid (below_setRow HS.out HNV.out _)
            clear XV HNV
            generalize y74.setRow BV #[.int .i64 0, .int .i64 0, .string ⟨#[]⟩, .int .i64 0, .int .i64 0, .int .i64 0, .int .i64 0, .int .i64 0, .slice none 0 0, .slice none 0 0, .string ⟨#[]⟩, .int .i64 0, .string ⟨#[]⟩] = y75 at HS ⊢
            refine flow_reads (F := Below n0) (fun _ => Below.refl _ _) (by kernel_rfl) [14] (fuel := 0) (by kernel_rfl) ?_
            simp only [List.map_cons, List.map_nil, pick, List.getD_cons_zero, List.getD_cons_succ]
            repeat (go_big_quiet_step (fail))
            refine wpQuiet_nil ?_
            refine flow_done (by kernel_rfl) ?_
            exact HEND.out _ _ _ _ _ _ _ _ _ _ _ _ _ _ _ _ _ _ _ _ _ _ _ _ _ _ _ _ _ _ _ _ _ _ _ _ _ _ _ _ _ _ _ _ _ _ _ _ _ _ _ _ _ _ _ _ _ _ _ _ _ _ _ _ _ _ _ _ _ _ _ _ _ _ _ _ _ _ _ _ _ _ _ _ _ _ _ _ _ _ _ _ _ _ _ _ _ _ _ _ _ _ _ _ _ _ _ _ _ _ _ _ _ _ _ _ _ _ _ _ _ _ _ _ _ _ _ _ _ _ _ _ _ _ _ _ _ _ _ _ _ _ HS.out
          · go_wp2_with fail
            refine pieceEnd_normal ⟨(one_new y0 _).mono (by have h1 := HN0.out; have h2 := HS.out.size; omega), ?_⟩
            obtain ⟨BV, hBV⟩ : ∃ BV, BV = y0.heap.size := ⟨_, rfl⟩
            have XV : Hid ((y0.alloc (.cells #[.int .i64 0, .int .i64 0, .string ⟨#[]⟩, .int .i64 0, .int .i64 0, .int .i64 0, .int .i64 0, .int .i64 0, .slice none 0 0, .slice none 0 0, .string ⟨#[]⟩, .int .i64 0, .string ⟨#[]⟩] 33)).heap[BV]? = some (.cells #[.int .i64 0, .int .i64 0, .string ⟨#[]⟩, .int .i64 0, .int .i64 0, .int .i64 0, .int .i64 0, .int .i64 0, .slice none 0 0, .slice none 0 0, .string ⟨#[]⟩, .int .i64 0, .string ⟨#[]⟩] 33 (0, 0))) := Lib.hid (by rw [hBV]; exact heap_alloc_new _ _)
            have HNV : Hid (y0.heap.size ≤ BV) := Lib.hid (by rw [hBV]; exact HS.out.size)
            replace HS : Hid (Below y0.heap.size y0 (y0.alloc (.cells #[.int .i64 0, .int .i64 0, .string ⟨#[]⟩, .int .i64 0, .int .i64 0, .int .i64 0, .int .i64 0, .int .i64 0, .slice none 0 0, .slice none 0 0, .string ⟨#[]⟩, .int .i64 0, .string ⟨#[]⟩] 33))) := Lib.hid (HS.out.trans ((one_new y0 _).mono HS.out.size))
            try rw [← hBV]
            clear hBV
            generalize y0.alloc (.cells #[.int .i64 0, .int .i64 0, .string ⟨#[]⟩, .int .i64 0, .int .i64 0, .int .i64 0, .int .i64 0, .int .i64 0, .slice none 0 0, .slice none 0 0, .string ⟨#[]⟩, .int .i64 0, .string ⟨#[]⟩] 33) = y76 at HS XV ⊢
            refine flow_one (F := Below n0) (fun _ _ _ h k => Below.trans h k) (fun _ => Below.refl _ _) 8 (by kernel_rfl) (by decide) ?_
            simp only [pick, List.getD_cons_zero, List.getD_cons_succ]
            go_wp2_with fail
            refine (HN9.out y76 (HB0.out.trans (HS.out.mono HB0.out.size)) (HR0.out.later HS.out) ((t0 : Int) - 1 - mo) (by omega)).mono ?_
            rintro e y77 ⟨rfl, hb⟩
            have hf : Below n0 _ _ := hb.mono (by have h1 := HN0.out; have h2 := HS.out.size; omega)
            replace HS := Lib.hid (HS.out.trans (hb.mono HS.out.size))
            replace XV := Lib.hid ((hb.block _ (Array.getElem?_eq_some_iff.1 XV.out).1).trans XV.out)
            clear hb
            go_wp2_with fail
            refine pieceEnd_normal ⟨hf, ?_⟩
            clear hf
            refine flow_reads (F := Below n0) (fun _ => Below.refl _ _) (by kernel_rfl) [9, 10, 11] (fuel := 2) (by kernel_rfl) ?_
            simp only [List.map_cons, List.map_nil, pick, List.getD_cons_zero, List.getD_cons_succ]
            repeat (go_big_quiet_step (fail))
            refine wpQuiet_nil ?_
            refine flow_one (F := Below n0) (fun _ _ _ h k => Below.trans h k) (fun _ => Below.refl _ _) 13 (by kernel_rfl) (by decide) ?_
            simp only [pick, List.getD_cons_zero, List.getD_cons_succ]
            go_wp2_with (refine wpList_store_row rfl 33 (.tmp 12) (.tmp 67) rfl BV #[.int .i64 0, .int .i64 0, .string ⟨#[]⟩, .int .i64 0, .int .i64 0, .int .i64 0, .int .i64 0, .int .i64 0, .slice none 0 0, .slice none 0 0, .string ⟨#[]⟩, .int .i64 0, .string ⟨#[]⟩] rfl rfl 33 _ XV.out (by kernel_rfl) rfl (by simp [Value.oneCell']) ?_)
            refine pieceEnd_normal ⟨below_setRow (Below.refl _ _) (by have h1 := HN0.out; have h2 := HNV.out; omega) _, ?_⟩
            replace HS : Hid (Below y0.heap.size y0 (y77.setRow BV #[.int .i64 0, .int .i64 0, .string ⟨#[]⟩, .int .i64 0, .int .i64 0, .int .i64 0, .int .i64 0, .int .i64 0, .slice none 0 0, .slice none 0 0, .string ⟨#[]⟩, .int .i64 0, .string ⟨#[]⟩])) := Lib.hid (below_setRow HS.out HNV.out _)
            clear XV HNV
            generalize y77.setRow BV #[.int .i64 0, .int .i64 0, .string ⟨#[]⟩, .int .i64 0, .int .i64 0, .int .i64 0, .int .i64 0, .int .i64 0, .slice none 0 0, .slice none 0 0, .string ⟨#[]⟩, .int .i64 0, .string ⟨#[]⟩] = y78 at HS ⊢
            refine flow_reads (F := Below n0) (fun _ => Below.refl _ _) (by kernel_rfl) [14] (fuel := 0) (by kernel_rfl) ?_
            simp only [List.map_cons, List.map_nil, pick, List.getD_cons_zero, List.getD_cons_succ]
            repeat (go_big_quiet_step (fail))
            refine wpQuiet_nil ?_
            refine flow_done (by kernel_rfl) ?_
            exact HEND.out _ _ _ _ _ _ _ _ _ _ _ _ _ _ _ _ _ _ _ _ _ _ _ _ _ _ _ _ _ _ _ _ _ _ _ _ _ _ _ _ _ _ _ _ _ _ _ _ _ _ _ _ _ _ _ _ _ _ _ _ _ _ _ _ _ _ _ _ _ _ _ _ _ _ _ _ _ _ _ _ _ _ _ _ _ _ _ _ _ _ _ _ _ _ _ _ _ _ _ _ _ _ _ _ _ _ _ _ _ _ _ _ _ _ _ _ _ _ _ _ _ _ _ _ _ _ _ _ _ _ _ _ _ _ _ _ _ _ _ _ _ _ HS.out
        · go_wp2_with fail
          refine pieceEnd_normal ⟨(one_new y0 _).mono (by have h1 := HN0.out; have h2 := HS.out.size; omega), ?_⟩
          obtain ⟨BV, hBV⟩ : ∃ BV, BV = y0.heap.size := ⟨_, rfl⟩
          have XV : Hid ((y0.alloc (.cells #[.int .i64 0, .int .i64 0, .string ⟨#[]⟩, .int .i64 0, .int .i64 0, .int .i64 0, .int .i64 0, .int .i64 0, .slice none 0 0, .slice none 0 0, .string ⟨#[]⟩, .int .i64 0, .string ⟨#[]⟩] 33)).heap[BV]? = some (.cells #[.int .i64 0, .int .i64 0, .string ⟨#[]⟩, .int .i64 0, .int .i64 0, .int .i64 0, .int .i64 0, .int .i64 0, .slice none 0 0, .slice none 0 0, .string ⟨#[]⟩, .int .i64 0, .string ⟨#[]⟩] 33 (0, 0))) := Lib.hid (by rw [hBV]; exact heap_alloc_new _ _)
          have HNV : Hid (y0.heap.size ≤ BV) := Lib.hid (by rw [hBV]; exact HS.out.size)
          replace HS : Hid (Below y0.heap.size y0 (y0.alloc (.cells #[.int .i64 0, .int .i64 0, .string ⟨#[]⟩, .int .i64 0, .int .i64 0, .int .i64 0, .int .i64 0, .int .i64 0, .slice none 0 0, .slice none 0 0, .string ⟨#[]⟩, .int .i64 0, .string ⟨#[]⟩] 33))) := Lib.hid (HS.out.trans ((one_new y0 _).mono HS.out.size))
          try rw [← hBV]
          clear hBV
          generalize y0.alloc (.cells #[.int .i64 0, .int .i64 0, .string ⟨#[]⟩, .int .i64 0, .int .i64 0, .int .i64 0, .int .i64 0, .int .i64 0, .slice none 0 0, .slice none 0 0, .string ⟨#[]⟩, .int .i64 0, .string ⟨#[]⟩] 33) = y79 at HS XV ⊢
          refine flow_one (F := Below n0) (fun _ _ _ h k => Below.trans h k) (fun _ => Below.refl _ _) 5 (by kernel_rfl) (by decide) ?_
          simp only [pick, List.getD_cons_zero, List.getD_cons_succ]
          go_wp2_with fail
          refine (HMO.out y79).mono ?_
          rintro e y ⟨rfl, rfl⟩
          go_wp2_with fail
          refine pieceEnd_normal ⟨Below.refl _ _, ?_⟩
          refine flow_reads (F := Below n0) (fun _ => Below.refl _ _) (by kernel_rfl) [6] (fuel := 7) (by kernel_rfl) ?_
          simp only [List.map_cons, List.map_nil, pick, List.getD_cons_zero, List.getD_cons_succ]
          repeat (go_big_quiet_step (fail))
          refine wpQuiet_nil ?_
          refine flow_val (F := Below n0) (fun _ => Below.refl _ _) (by kernel_rfl) 7 (by kernel_rfl) ?_
          simp only [pick, List.getD_cons_zero, List.getD_cons_succ]
          repeat (go_big_quiet_step (fail))
          refine wpQuiet_nil ?_
          refine flow_one (F := Below n0) (fun _ _ _ h k => Below.trans h k) (fun _ => Below.refl _ _) 8 (by kernel_rfl) (by decide) ?_
          simp only [pick, List.getD_cons_zero, List.getD_cons_succ]
          go_wp2_with fail
          refine (HN9.out y79 (HB0.out.trans (HS.out.mono HB0.out.size)) (HR0.out.later HS.out) ((t0 : Int) - 1 - mo) (by omega)).mono ?_
          rintro e y80 ⟨rfl, hb⟩
          have hf : Below n0 _ _ := hb.mono (by have h1 := HN0.out; have h2 := HS.out.size; omega)
          replace HS := Lib.hid (HS.out.trans (hb.mono HS.out.size))
          replace XV := Lib.hid ((hb.block _ (Array.getElem?_eq_some_iff.1 XV.out).1).trans XV.out)
          clear hb
          go_wp2_with fail
          refine pieceEnd_normal ⟨hf, ?_⟩
          clear hf
          refine flow_reads (F := Below n0) (fun _ => Below.refl _ _) (by kernel_rfl) [9, 10, 11] (fuel := 2) (by kernel_rfl) ?_
          simp only [List.map_cons, List.map_nil, pick, List.getD_cons_zero, List.getD_cons_succ]
          repeat (go_big_quiet_step (fail))
          refine wpQuiet_nil ?_
          refine flow_one (F := Below n0) (fun _ _ _ h k => Below.trans h k) (fun _ => Below.refl _ _) 13 (by kernel_rfl) (by decide) ?_
          simp only [pick, List.getD_cons_zero, List.getD_cons_succ]
          go_wp2_with (refine wpList_store_row rfl 33 (.tmp 12) (.tmp 67) rfl BV #[.int .i64 0, .int .i64 0, .string ⟨#[]⟩, .int .i64 0, .int .i64 0, .int .i64 0, .int .i64 0, .int .i64 0, .slice none 0 0, .slice none 0 0, .string ⟨#[]⟩, .int .i64 0, .string ⟨#[]⟩] rfl rfl 33 _ XV.out (by kernel_rfl) rfl (by simp [Value.oneCell']) ?_)
          refine pieceEnd_normal ⟨below_setRow (Below.refl _ _) (by have h1 := HN0.out; have h2 := HNV.out; omega) _, ?_⟩
          replace HS : Hid (Below y0.heap.size y0 (y80.setRow BV #[.int .i64 0, .int .i64 0, .string ⟨#[]⟩, .int .i64 0, .int .i64 0, .int .i64 0, .int .i64 0, .int .i64 0, .slice none 0 0, .slice none 0 0, .string ⟨#[]⟩, .int .i64 0, .string ⟨#[]⟩])) := Lib.hid (below_setRow HS.out HNV.out _)
          clear XV HNV
          generalize y80.setRow BV #[.int .i64 0, .int .i64 0, .string ⟨#[]⟩, .int .i64 0, .int .i64 0, .int .i64 0, .int .i64 0, .int .i64 0, .slice none 0 0, .slice none 0 0, .string ⟨#[]⟩, .int .i64 0, .string ⟨#[]⟩] = y81 at HS ⊢
          refine flow_reads (F := Below n0) (fun _ => Below.refl _ _) (by kernel_rfl) [14] (fuel := 0) (by kernel_rfl) ?_
          simp only [List.map_cons, List.map_nil, pick, List.getD_cons_zero, List.getD_cons_succ]
          repeat (go_big_quiet_step (fail))
          refine wpQuiet_nil ?_
          refine flow_done (by kernel_rfl) ?_
          exact HEND.out _ _ _ _ _ _ _ _ _ _ _ _ _ _ _ _ _ _ _ _ _ _ _ _ _ _ _ _ _ _ _ _ _ _ _ _ _ _ _ _ _ _ _ _ _ _ _ _ _ _ _ _ _ _ _ _ _ _ _ _ _ _ _ _ _ _ _ _ _ _ _ _ _ _ _ _ _ _ _ _ _ _ _ _ _ _ _ _ _ _ _ _ _ _ _ _ _ _ _ _ _ _ _ _ _ _ _ _ _ _ _ _ _ _ _ _ _ _ _ _ _ _ _ _ _ _ _ _ _ _ _ _ _ _ _ _ _ _ _ _ _ _ HS.out
  · rw [decide_eq_false hlight]
    go_wp2_with fail
    refine (HSA.out w (Below.refl _ _)).mono ?_
    rintro e w1 ⟨rfl, hb⟩
    have HB := Lib.hid hb
    clear hb
    go_wp2_with fail
    go_ret
    exact ⟨rfl, HB.out⟩
end Go.Proofs.YtdioijnhliejpaaDoor
