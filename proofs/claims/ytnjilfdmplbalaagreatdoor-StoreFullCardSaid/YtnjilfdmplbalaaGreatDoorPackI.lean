import Derived.Test.YtnjilfdmplbalaaGreatDoorPackL
/- The walk of StoreFull. -/
namespace Go.Proofs.YtnjilfdmplbalaaGreatDoor
open Go.RowKit
theorem add_there (A : Option Addr) (c : Nat) (w : World) (h : SRow w A 1000 c (fullL 1000)) (hr : Rounds w) :
    Calls Tryz.prog 11 #[.agg #[.slice A 1000 c], stmV (nth 777) none 0 0 none 0 0] w (SaysL (.tuple #[.agg #[.slice A 1000 c], .bool false, .int .i64 0]) w) := by
  have h1 := add_any A 1000 c (fullL 1000) (nth 777) w h fullL_sto (nth_fit 777 (by omega)).well 777 (by omega) (fun i hi => by rw [fullL_at 1000 i (by omega)]; exact nth_lt _ _ hi) (fun i hi hi2 => by
    rw [fullL_at 1000 i hi2]
    by_cases he : i = 777
    · rw [he, cmpS_self]; omega
    · have := nth_lt 777 i (by omega)
      have := ordS.anti (nth i) (nth 777)
      omega) hr
  refine Calls.mono h1 ?_
  rintro e w' ⟨A2, n2, c2, b, er, rfl, hb, h2, -, -⟩
  obtain ⟨rfl, rfl, rfl, rfl, rfl⟩ := h2 ⟨by omega, by rw [fullL_at 1000 777 (by omega)]; exact cmpS_self _⟩
  exact ⟨rfl, hb⟩
theorem add_more (A : Option Addr) (c : Nat) (w : World) (h : SRow w A 1000 c (fullL 1000)) (hr : Rounds w) :
    Calls Tryz.prog 11 #[.agg #[.slice A 1000 c], stmV moreS none 0 0 none 0 0] w (SaysL (.tuple #[.agg #[.slice A 1000 c], .bool false, .int .i64 3]) w) := by
  have h1 := add_any A 1000 c (fullL 1000) moreS w h fullL_sto more_fit.well 1000 (Nat.le_refl _) (fun i hi => by rw [fullL_at 1000 i hi]; exact more_lt i hi) (fun i hi hi2 => absurd hi2 (by omega)) hr
  refine Calls.mono h1 ?_
  rintro e w' ⟨A2, n2, c2, b, er, rfl, hb, -, h2, -⟩
  obtain ⟨rfl, rfl, rfl, rfl, rfl⟩ := h2 (fun h => absurd h.1 (by omega)) rfl
  exact ⟨rfl, hb⟩
theorem merge_less (A : Option Addr) (c : Nat) (B : Option Addr) (k : Nat) (w : World) (h : SRow w A 999 c lessL) (h2 : SRow w B 1 k [nth 777]) (hr : Rounds w) :
    Calls Tryz.prog 13 #[.agg #[.slice A 999 c], .agg #[.slice B 1 k]] w fun e w' => ∃ A2 c2, e = .returned (.tuple #[.agg #[.slice A2 1000 c2], .int .i64 0]) ∧ Below w.heap.size w w' := by
  have h1 := merge_any A 999 c lessL B 1 k [nth 777] w h h2 lessL_sto (sto_one (nth_fit 777 (by omega)).well) (by omega) less_apart hr
  refine Calls.mono h1 ?_
  rintro e w' ⟨A2, n2, c2, er, rfl, h3, -, hb⟩
  obtain ⟨rfl, rfl⟩ := h3 (by omega)
  exact ⟨A2, c2, rfl, hb⟩
theorem merge_more (A : Option Addr) (c : Nat) (B : Option Addr) (k : Nat) (w : World) (h : SRow w A 1000 c (fullL 1000)) (h2 : SRow w B 1 k [moreS]) (hr : Rounds w) :
    Calls Tryz.prog 13 #[.agg #[.slice A 1000 c], .agg #[.slice B 1 k]] w fun e w' => ∃ A2 n2 c2, e = .returned (.tuple #[.agg #[.slice A2 n2 c2], .int .i64 3]) ∧ Below w.heap.size w w' := by
  have h1 := merge_any A 1000 c (fullL 1000) B 1 k [moreS] w h h2 fullL_sto (sto_one more_fit.well) (by omega) more_apart hr
  refine Calls.mono h1 ?_
  rintro e w' ⟨A2, n2, c2, er, rfl, -, h3, hb⟩
  have he := h3 (by omega)
  subst he
  exact ⟨A2, n2, c2, rfl, hb⟩
theorem own_row_set {w : World} {B : Nat} {e t : TypeId} {A : Option Addr} {n c : Nat} {l : List Stm} (h : w.ownsRow B e 13 (.slice A n c) n (stmsC l)) {k : Nat} {cs : Array Value} {fr : Nat × Nat} (hk : w.heap[k]? = some (.cells cs t fr)) (hne : t ≠ e) {new : Array Value} : SRow (w.setRow k new) A n c l := by
  obtain ⟨A2, c2, e2, hr⟩ := Row.of_own h
  injection e2 with e3 e4 e5
  subst e3 e5
  refine Row.keep hr fun ad hA h1 hlt => setRow_other _ _ _ _ fun hb => ?_
  rcases h.2 with ⟨hv, _⟩ | ⟨g, cap, cur, hv, _, hg, _⟩
  · injection hv with hv1 hv2 hv3
    omega
  · injection hv with hv1 _ _
    rw [hv1] at hA
    injection hA with hA
    rw [← hA] at hb
    simp only at hb
    rw [hb] at hg
    rw [hk] at hg
    injection hg with hg
    injection hg with _ hg _
    exact hne hg
set_option maxRecDepth 100000 in
set_option maxHeartbeats 8000000 in
theorem full_any (w : World) (hr : Rounds w) : Calls Tryz.prog 8 #[] w (SaysL (.bool true) w) := by
  have HSE : Hid (∀ (k i : Nat) y, Calls Tryz.prog 22 #[.agg #[.int .i64 (k : Nat), .int .i64 (i : Nat), .string (prevAt k i), .int .i64 0, .int .i64 10, .int .i64 0, .int .i64 0, .int .i64 0, .slice none 0 0, .slice none 0 0, .string ⟨#[]⟩, .int .i64 0, .string ⟨#[]⟩]] y (SaysL (stmV (stAt k i) none 0 0 none 0 0) y)) := Lib.hid fun k i y => seal_bare k i (prevAt k i) 0 10 0 (by rw [prevAt_size]; by_cases h : i = 0 <;> simp [h]) y
  have HSM : Hid (∀ y, Calls Tryz.prog 22 #[.agg #[.int .i64 7, .int .i64 0, .string ⟨#[]⟩, .int .i64 0, .int .i64 10, .int .i64 0, .int .i64 0, .int .i64 0, .slice none 0 0, .slice none 0 0, .string ⟨#[]⟩, .int .i64 0, .string ⟨#[]⟩]] y (SaysL (stmV moreS none 0 0 none 0 0) y)) := Lib.hid fun y => seal_bare 7 0 ⟨#[]⟩ 0 10 0 (by show (0 : Nat) ≤ 100; omega) y
  have HRR : Hid (∀ y, Below w.heap.size w y → Rounds y) := Lib.hid fun y h => hr.later h
  clear hr
  unfold stmV at HSE HSM
  go_enter Tryz.func8, Tryz.ntmps8
  go_wp2_with fail
  go_loopw [1, 2] (fun v a wr => ∃ k : Nat, k ≤ 5 ∧ a = .int .i64 k ∧ Hid (wr.ownsRow w.heap.size 30 13 v (200 * k) (stmsC (fullL (200 * k))) ∧ Below w.heap.size w wr)) (fun _ a _ => 5 - (intOf a).toNat)
  case atStart => exact ⟨0, Nat.zero_le _, rfl, Lib.hid ⟨World.ownsRow_nil _ _ _ _, Below.refl _ _⟩⟩
  case round =>
    obtain ⟨k, hk, rfl, HQ⟩ := hrel
    by_cases hlt : k < 5
    · go_wp2_with fail
      go_loopw [1, 3, 4] (fun v p b wr2 => ∃ i : Nat, i ≤ 200 ∧ b = .int .i64 i ∧ p = .string (prevAt k i) ∧ Hid (wr2.ownsRow w.heap.size 30 13 v (200 * k + i) (stmsC (fullL (200 * k + i))) ∧ Below w.heap.size w wr2)) (fun _ _ b _ => 200 - (intOf b).toNat)
      case atStart => exact ⟨0, Nat.zero_le _, rfl, rfl, HQ⟩
      case round =>
        obtain ⟨i, hi, rfl, rfl, HQ2⟩ := hrel
        by_cases hlt2 : i < 200
        · have HNX : Hid (fullL (200 * k + (i + 1)) = fullL (200 * k + i) ++ [stAt k i]) := Lib.hid (by rw [← nth_at k i hlt2]; exact fullL_snoc _)
          have HPV : Hid (prevAt k (i + 1) = (stAt k i).dig) := Lib.hid rfl
          have HS1 := Lib.hid (HSE.out k i)
          generalize prevAt k i = pv at HS1 ⊢
          generalize stAt k i = s at *
          go_wp2_with fail
          refine (HS1.out _).mono ?_
          rintro e w2 ⟨rfl, hb⟩
          have HO2 := Lib.hid (own_below HQ2.out.1 hb (own_lt HQ2.out.1)); have HB2 := Lib.hid (HQ2.out.2.trans (hb.mono HQ2.out.2.size))
          clear hb HS1
          have HX := Lib.hid (BoxS.new w2 s)
          have hbx := HX.out
          unfold BoxS at hbx
          obtain ⟨-, -, -, -, -, -, -, -, -, -, -, -, hd12⟩ := stm_cells (A := none) (n := 0) (c := 0) (B := none) (m := 0) (k := 0) (s := s) hbx
          clear hbx
          have HO3 := Lib.hid (World.ownsRow.alloc HO2.out (.cells #[.int .i64 s.author, .int .i64 s.number, .string s.prev, .int .i64 s.time, .int .i64 s.kind, .int .i64 s.a, .int .i64 s.b, .int .i64 s.c, .slice none 0 0, .slice none 0 0, .string s.body, .int .i64 s.key, .string s.dig] 30))
          have HB3 := Lib.hid (HB2.out.trans ((one_new w2 (.cells #[.int .i64 s.author, .int .i64 s.number, .string s.prev, .int .i64 s.time, .int .i64 s.kind, .int .i64 s.a, .int .i64 s.b, .int .i64 s.c, .slice none 0 0, .slice none 0 0, .string s.body, .int .i64 s.key, .string s.dig] 30)).mono HB2.out.size))
          have HZ3 : Hid ((w2.alloc (.cells #[.int .i64 s.author, .int .i64 s.number, .string s.prev, .int .i64 s.time, .int .i64 s.kind, .int .i64 s.a, .int .i64 s.b, .int .i64 s.c, .slice none 0 0, .slice none 0 0, .string s.body, .int .i64 s.key, .string s.dig] 30)).heap.size = w2.heap.size + 1) := Lib.hid (by simp)
          go_wp2_with (first | (refine wpList_store_new rfl 30 (.tmp 5) (.tmp 32) rfl 30 _ #[.int .i64 s.author, .int .i64 s.number, .string s.prev, .int .i64 s.time, .int .i64 s.kind, .int .i64 s.a, .int .i64 s.b, .int .i64 s.c, .slice none 0 0, .slice none 0 0, .string s.body, .int .i64 s.key, .string s.dig] rfl rfl (by kernel_rfl) rfl (by simp [Value.oneCell']) ?_) | (refine wpList_load_row rfl 30 (.tmp 5) rfl (w2.heap.size) rfl 30 #[.int .i64 s.author, .int .i64 s.number, .string s.prev, .int .i64 s.time, .int .i64 s.kind, .int .i64 s.a, .int .i64 s.b, .int .i64 s.c, .slice none 0 0, .slice none 0 0, .string s.body, .int .i64 s.key, .string s.dig] (0, 0) _ (HX.out) Tryz.underlying30 rfl (by kernel_rfl) ?_) | (at_builtin; go_must (refine wpList_app_newK (w2.alloc (.cells #[.int .i64 s.author, .int .i64 s.number, .string s.prev, .int .i64 s.time, .int .i64 s.kind, .int .i64 s.a, .int .i64 s.b, .int .i64 s.c, .slice none 0 0, .slice none 0 0, .string s.body, .int .i64 s.key, .string s.dig] 30)) rfl (.tmp 36) (.tmp 38) 22 30 rfl w.heap.size Tryz.underlying22 stm_info2 rfl _ (200 * k + i) (stmsC (fullL (200 * k + i))) HO3.out rfl 1 #[.int .i64 s.author, .int .i64 s.number, .string s.prev, .int .i64 s.time, .int .i64 s.kind, .int .i64 s.a, .int .i64 s.b, .int .i64 s.c, .slice none 0 0, .slice none 0 0, .string s.body, .int .i64 s.key, .string s.dig] rfl (by simp [Value.oneCell']) (by exact congrArg (fun k => Value.slice (some ⟨k, 0, none⟩) 1 1) HZ3.out.symm) rfl (by unfold maxLen; omega) (by omega) HB3.out.size ?_); intro x3 z3 ho hb hk1 hk2; have HO4 := Lib.hid ho; have HB4 := Lib.hid (HB3.out.trans hb); clear ho hb hk1 hk2))
          refine ⟨⟨x3, .string s.dig, .int .i64 ((i : Int) + 1), ⟨i + 1, hlt2, by go_num, by rw [HPV.out], Lib.hid ⟨?_, HB4.out⟩⟩, rfl, rfl, rfl⟩, by simp [intOf]; omega⟩
          rw [HNX.out, stmsC_app, stmsC_single]
          exact HO4.out
        · have hi2 : i = 200 := by omega
          subst hi2
          go_wp2_with fail
          exact ⟨⟨k + 1, by omega, by go_num, Lib.hid ⟨HQ2.out.1, HQ2.out.2⟩⟩, by simp [intOf]; omega⟩
    · have hk5 : k = 5 := by omega
      subst hk5
      obtain ⟨g, cap, hv⟩ := ownsRow_succ (k := 999) HQ.out.1
      have hv' : _ = Value.slice (some ⟨g, 0, none⟩) 1000 cap := hv
      clear hv
      subst hv'
      have HRW : Hid (SRow wr (some ⟨g, 0, none⟩) 1000 cap (fullL 1000)) := Lib.hid (by
        obtain ⟨A5, c5, e5, hr5⟩ := Row.of_own HQ.out.1
        injection e5 with e6 e7 e8
        subst e6 e8
        exact hr5)
      have HBW := Lib.hid HQ.out.2
      clear HQ HSE
      have HX7 : Hid ((fullL 1000).getD 777 noStm = nth 777) := Lib.hid (fullL_at 1000 777 (by omega))
      have HA1 : Hid (∀ y, Below w.heap.size w y → SRow y (some ⟨g, 0, none⟩) 1000 cap (fullL 1000) → Calls Tryz.prog 11 #[.agg #[.slice (some ⟨g, 0, none⟩) 1000 cap], stmV (nth 777) none 0 0 none 0 0] y (SaysL (.tuple #[.agg #[.slice (some ⟨g, 0, none⟩) 1000 cap], .bool false, .int .i64 0]) y)) := Lib.hid fun y h hrow => add_there _ _ y hrow (HRR.out y h)
      have HA2 : Hid (∀ y, Below w.heap.size w y → SRow y (some ⟨g, 0, none⟩) 1000 cap (fullL 1000) → Calls Tryz.prog 11 #[.agg #[.slice (some ⟨g, 0, none⟩) 1000 cap], stmV moreS none 0 0 none 0 0] y (SaysL (.tuple #[.agg #[.slice (some ⟨g, 0, none⟩) 1000 cap], .bool false, .int .i64 3]) y)) := Lib.hid fun y h hrow => add_more _ _ y hrow (HRR.out y h)
      have HM1 : Hid (∀ y A c B k, Below w.heap.size w y → SRow y A 999 c lessL → SRow y B 1 k [nth 777] → Calls Tryz.prog 13 #[.agg #[.slice A 999 c], .agg #[.slice B 1 k]] y fun e w' => ∃ A2 c2, e = .returned (.tuple #[.agg #[.slice A2 1000 c2], .int .i64 0]) ∧ Below y.heap.size y w') := Lib.hid fun y A c B k h h1 h2 => merge_less A c B k y h1 h2 (HRR.out y h)
      have HM2 : Hid (∀ y B k, Below w.heap.size w y → SRow y (some ⟨g, 0, none⟩) 1000 cap (fullL 1000) → SRow y B 1 k [moreS] → Calls Tryz.prog 13 #[.agg #[.slice (some ⟨g, 0, none⟩) 1000 cap], .agg #[.slice B 1 k]] y fun e w' => ∃ A2 n2 c2, e = .returned (.tuple #[.agg #[.slice A2 n2 c2], .int .i64 3]) ∧ Below y.heap.size y w') := Lib.hid fun y B k h h1 h2 => merge_more _ _ B k y h1 h2 (HRR.out y h)
      have HAW : Hid (∀ y, Below w.heap.size w y → Calls Tryz.prog 10 #[] y (SaysL (.bool true) y)) := Lib.hid fun y h => awake_any y (HRR.out y h)
      have HTK : Hid (∀ y, SRow y (some ⟨g, 0, none⟩) 1000 cap (fullL 1000) → SRow y (some ⟨g, 0, none⟩) 777 cap ((fullL 1000).take 777)) := Lib.hid fun y h => SRow.take h 777 (by omega)
      have HDR : Hid (∀ y, SRow y (some ⟨g, 0, none⟩) 1000 cap (fullL 1000) → SRow y (dropA (some ⟨g, 0, none⟩) cap 778 13) (1000 - 778) (cap - 778) ((fullL 1000).drop 778)) := Lib.hid fun y h => SRow.drop h 778 (by omega)
      have HLS : Hid (stmsC ((fullL 1000).take 777) ++ stmsC ((fullL 1000).drop 778) = stmsC lessL) := Lib.hid (by unfold lessL; rw [stmsC_app])
      generalize nth 777 = x at HX7 HA1 HM1
      generalize (fullL 1000).take 777 = la at HTK HLS
      generalize (fullL 1000).drop 778 = lb at HDR HLS
      generalize lessL = ll at HLS HM1
      generalize fullL 1000 = F at HRW HX7 HA1 HA2 HM1 HM2 HTK HDR
      generalize moreS = m at HSM HA2 HM2
      unfold stmV at HA1 HA2
      clear HRR
      go_wp2_with fail
      refine (HSM.out _).mono ?_
      rintro e w1 ⟨rfl, hb⟩
      have hb0 : Below wr.heap.size wr w1 := (one_new wr (.cells #[.slice (some ⟨g, 0, none⟩) 1000 cap] 24)).trans (hb.mono (by simp))
      have HB1 : Hid (Below w.heap.size w (w1.alloc (.cells #[.int .i64 m.author, .int .i64 m.number, .string m.prev, .int .i64 m.time, .int .i64 m.kind, .int .i64 m.a, .int .i64 m.b, .int .i64 m.c, .slice none 0 0, .slice none 0 0, .string m.body, .int .i64 m.key, .string m.dig] 30))) := Lib.hid ((HBW.out.trans (hb0.mono HBW.out.size)).trans ((one_new w1 _).mono (by have := HBW.out.size; have := hb0.size; omega)))
      have HR1 : Hid (SRow (w1.alloc (.cells #[.int .i64 m.author, .int .i64 m.number, .string m.prev, .int .i64 m.time, .int .i64 m.kind, .int .i64 m.a, .int .i64 m.b, .int .i64 m.c, .slice none 0 0, .slice none 0 0, .string m.body, .int .i64 m.key, .string m.dig] 30)) (some ⟨g, 0, none⟩) 1000 cap (F)) := Lib.hid ((HRW.out.later hb0).later (one_new w1 _))
      have X6 : Hid ((w1.alloc (.cells #[.int .i64 m.author, .int .i64 m.number, .string m.prev, .int .i64 m.time, .int .i64 m.kind, .int .i64 m.a, .int .i64 m.b, .int .i64 m.c, .slice none 0 0, .slice none 0 0, .string m.body, .int .i64 m.key, .string m.dig] 30)).heap[wr.heap.size]? = some (.cells #[.slice (some ⟨g, 0, none⟩) 1000 cap] 24 (0, 0))) := Lib.hid (((one_new w1 (.cells #[.int .i64 m.author, .int .i64 m.number, .string m.prev, .int .i64 m.time, .int .i64 m.kind, .int .i64 m.a, .int .i64 m.b, .int .i64 m.c, .slice none 0 0, .slice none 0 0, .string m.body, .int .i64 m.key, .string m.dig] 30)).block _ (by have := hb.size; simp at this; omega)).trans ((hb.block _ (by simp)).trans (heap_alloc_new _ _)))
      have X8 : Hid (BoxS (w1.alloc (.cells #[.int .i64 m.author, .int .i64 m.number, .string m.prev, .int .i64 m.time, .int .i64 m.kind, .int .i64 m.a, .int .i64 m.b, .int .i64 m.c, .slice none 0 0, .slice none 0 0, .string m.body, .int .i64 m.key, .string m.dig] 30)) w1.heap.size m) := Lib.hid (BoxS.new w1 m)
      clear hb hb0 HSM HBW HRW
      go_wp2_with (refine wpList_store_new rfl 30 (.tmp 8) (.tmp 43) rfl 30 _ #[.int .i64 m.author, .int .i64 m.number, .string m.prev, .int .i64 m.time, .int .i64 m.kind, .int .i64 m.a, .int .i64 m.b, .int .i64 m.c, .slice none 0 0, .slice none 0 0, .string m.body, .int .i64 m.key, .string m.dig] rfl rfl (by kernel_rfl) rfl (by simp [Value.oneCell']) ?_)
      generalize wr.heap.size = B6 at X6 ⊢
      generalize w1.heap.size = B8 at X8 ⊢
      generalize (w1.alloc (.cells #[.int .i64 m.author, .int .i64 m.number, .string m.prev, .int .i64 m.time, .int .i64 m.kind, .int .i64 m.a, .int .i64 m.b, .int .i64 m.c, .slice none 0 0, .slice none 0 0, .string m.body, .int .i64 m.key, .string m.dig] 30)) = w2 at HB1 HR1 X6 X8 ⊢
      obtain ⟨n0, hn0⟩ : ∃ n0, n0 = w2.drew.heap.size := ⟨_, rfl⟩
      rename_i K15 HK15
      refine wp_region_flow (by kernel_rfl) (Below n0) ?_
      try simp only [Act.put]
      have HN0 := Lib.hid hn0
      clear hn0
      have HB0 := Lib.hid (HB1.out.trans ((Later.drew w2).mono HB1.out.size)); have HR0 := Lib.hid (HR1.out.later (Later.drew w2)); have X60 : Hid (w2.drew.heap[B6]? = some (.cells #[.slice (some ⟨g, 0, none⟩) 1000 cap] 24 (0, 0))) := Lib.hid X6.out; have X80 : Hid (BoxS w2.drew B8 m) := Lib.hid X8.out
      clear HB1 HR1 X6 X8
      generalize w2.drew = y0 at HB0 HR0 X60 X80 HN0 ⊢
      have HS : Hid (Below y0.heap.size y0 y0) := Lib.hid (Below.refl _ _)
      have HEND : Hid (∀ (s0 : World) (v2 v3 v4 v5 v9 v12 v13 v14 v15 v16 v17 v18 v19 v20 v21 v22 v23 v24 v25 v26 v27 v28 v29 v30 v31 v32 v33 v34 v35 v36 v37 v38 v39 v40 v41 v42 v43 v44 v45 v46 v47 v48 v49 v50 v51 v52 v53 v54 v55 v56 v57 v58 v59 v60 v61 v62 v63 v64 v65 v66 v67 v68 v69 v70 v71 v72 v73 v74 v75 v76 v77 v78 v79 v80 v81 v82 v83 v84 v85 v86 v87 v88 v89 v90 v91 v92 v93 v94 v95 v96 v97 v98 v99 v100 v101 v102 v103 v104 v105 v106 v107 v108 v109 v110 v111 v112 v113 v114 v115 v116 v117 v118 v119 v120 v121 v122 v123 v124 v125 v126 v127 : Value), Below y0.heap.size y0 s0 → K15 { tmps := #[.bool false, .slice (some ⟨g, 0, none⟩) 1000 cap, v2, v3, v4, v5, .pointer (some ⟨B6, 0, none⟩), .int .i64 777, .pointer (some ⟨B8, 0, none⟩), v9, .bool false, .int .i64 0, v12, v13, v14, v15, v16, v17, v18, v19, v20, v21, v22, v23, v24, v25, v26, v27, v28, v29, v30, v31, v32, v33, v34, v35, v36, v37, v38, v39, v40, v41, v42, v43, v44, v45, v46, v47, v48, v49, v50, v51, v52, v53, v54, v55, v56, v57, v58, v59, v60, v61, v62, v63, v64, v65, v66, v67, v68, v69, v70, v71, v72, v73, v74, v75, v76, v77, v78, v79, v80, v81, v82, v83, v84, v85, v86, v87, v88, v89, v90, v91, v92, v93, v94, v95, v96, v97, v98, v99, v100, v101, v102, v103, v104, v105, v106, v107, v108, v109, v110, v111, v112, v113, v114, v115, v116, v117, v118, v119, v120, v121, v122, v123, v124, v125, v126, v127], defers := [] } s0) := Lib.hid (by
        intro s0 v2 v3 v4 v5 v9 v12 v13 v14 v15 v16 v17 v18 v19 v20 v21 v22 v23 v24 v25 v26 v27 v28 v29 v30 v31 v32 v33 v34 v35 v36 v37 v38 v39 v40 v41 v42 v43 v44 v45 v46 v47 v48 v49 v50 v51 v52 v53 v54 v55 v56 v57 v58 v59 v60 v61 v62 v63 v64 v65 v66 v67 v68 v69 v70 v71 v72 v73 v74 v75 v76 v77 v78 v79 v80 v81 v82 v83 v84 v85 v86 v87 v88 v89 v90 v91 v92 v93 v94 v95 v96 v97 v98 v99 v100 v101 v102 v103 v104 v105 v106 v107 v108 v109 v110 v111 v112 v113 v114 v115 v116 v117 v118 v119 v120 v121 v122 v123 v124 v125 v126 v127 hy
        clear HA1
        have HBy := Lib.hid (HB0.out.trans (hy.mono HB0.out.size)); have HRy := Lib.hid (HR0.out.later hy); have X6y : Hid (s0.heap[B6]? = some (.cells #[.slice (some ⟨g, 0, none⟩) 1000 cap] 24 (0, 0))) := Lib.hid ((hy.block _ (Array.getElem?_eq_some_iff.1 X60.out).1).trans X60.out); have X8y := Lib.hid (X80.out.later hy)
        clear hy HB0 HR0 X60 X80 HN0 HS
        refine HK15 _ _ ?_
        clear HK15
        have hc6 := cell_of_row _ _ 0 _ _ _ X6y.out
        simp only [List.getElem?_toArray, List.getElem?_cons_zero] at hc6
        go_wp2_with (refine wpList_load_row rfl 30 (.tmp 8) rfl (B8) rfl 30 #[.int .i64 m.author, .int .i64 m.number, .string m.prev, .int .i64 m.time, .int .i64 m.kind, .int .i64 m.a, .int .i64 m.b, .int .i64 m.c, .slice none 0 0, .slice none 0 0, .string m.body, .int .i64 m.key, .string m.dig] (0, 0) _ (X8y.out) Tryz.underlying30 rfl (by kernel_rfl) ?_)
        clear hc6
        refine (HA2.out s0 HBy.out HRy.out).mono ?_
        rintro e s1 ⟨rfl, hb⟩
        have HB2 : Hid (Below w.heap.size w (s1.alloc (.cells #[.slice (some ⟨g, 0, none⟩) 1000 cap] 24))) := Lib.hid ((HBy.out.trans (hb.mono HBy.out.size)).trans ((one_new s1 _).mono (by have := HBy.out.size; have := hb.size; omega)))
        have HR2 : Hid (SRow (s1.alloc (.cells #[.slice (some ⟨g, 0, none⟩) 1000 cap] 24)) (some ⟨g, 0, none⟩) 1000 cap (F)) := Lib.hid ((HRy.out.later hb).later (one_new s1 _))
        have X62 : Hid ((s1.alloc (.cells #[.slice (some ⟨g, 0, none⟩) 1000 cap] 24)).heap[B6]? = some (.cells #[.slice (some ⟨g, 0, none⟩) 1000 cap] 24 (0, 0))) := Lib.hid (by
          have h1 := (hb.block _ (Array.getElem?_eq_some_iff.1 X6y.out).1).trans X6y.out
          exact ((one_new s1 (.cells #[.slice (some ⟨g, 0, none⟩) 1000 cap] 24)).block _ (Array.getElem?_eq_some_iff.1 h1).1).trans h1)
        have X82 : Hid (BoxS (s1.alloc (.cells #[.slice (some ⟨g, 0, none⟩) 1000 cap] 24)) B8 m) := Lib.hid ((X8y.out.later hb).later (one_new s1 _))
        clear hb HBy HRy X6y X8y HA2
        go_wp2_with (refine wpList_store_new rfl 24 (.tmp 12) (.tmp 58) rfl 24 _ #[.slice (some ⟨g, 0, none⟩) 1000 cap] rfl rfl (by kernel_rfl) rfl (by simp [Value.oneCell']) ?_)
        generalize s1.alloc (.cells #[.slice (some ⟨g, 0, none⟩) 1000 cap] 24) = w2 at HB2 HR2 X62 X82 ⊢
        obtain ⟨n0, hn0⟩ : ∃ n0, n0 = w2.drew.heap.size := ⟨_, rfl⟩
        rename_i K17 HK17
        refine wp_region_flow (by kernel_rfl) (Below n0) ?_
        try simp only [Act.put]
        have HN0 := Lib.hid hn0
        clear hn0
        have HB0 := Lib.hid (HB2.out.trans ((Later.drew w2).mono HB2.out.size)); have HR0 := Lib.hid (HR2.out.later (Later.drew w2)); have X60 : Hid (w2.drew.heap[B6]? = some (.cells #[.slice (some ⟨g, 0, none⟩) 1000 cap] 24 (0, 0))) := Lib.hid X62.out; have X80 : Hid (BoxS w2.drew B8 m) := Lib.hid X82.out
        clear HB2 HR2 X62 X82
        generalize w2.drew = y0 at HB0 HR0 X60 X80 HN0 ⊢
        have HS : Hid (Below y0.heap.size y0 y0) := Lib.hid (Below.refl _ _)
        have HEND : Hid (∀ (s0 : World) (v2 v3 v4 v5 v9 v12 v16 v17 v18 v19 v20 v21 v22 v23 v24 v25 v26 v27 v28 v29 v30 v31 v32 v33 v34 v35 v36 v37 v38 v39 v40 v41 v42 v43 v44 v45 v46 v47 v48 v49 v50 v51 v52 v53 v54 v55 v56 v57 v58 v59 v60 v61 v62 v63 v64 v65 v66 v67 v68 v69 v70 v71 v72 v73 v74 v75 v76 v77 v78 v79 v80 v81 v82 v83 v84 v85 v86 v87 v88 v89 v90 v91 v92 v93 v94 v95 v96 v97 v98 v99 v100 v101 v102 v103 v104 v105 v106 v107 v108 v109 v110 v111 v112 v113 v114 v115 v116 v117 v118 v119 v120 v121 v122 v123 v124 v125 v126 v127 : Value) (BV : Nat) (A6 : Option Addr) (c6 : Nat), Below y0.heap.size y0 s0 → s0.heap[BV]? = some (.cells #[.slice A6 999 c6] 24 (0, 0)) → SRow s0 A6 999 c6 ll → K17 { tmps := #[.bool false, .slice (some ⟨g, 0, none⟩) 1000 cap, v2, v3, v4, v5, .pointer (some ⟨B6, 0, none⟩), .int .i64 777, .pointer (some ⟨B8, 0, none⟩), v9, .bool false, .int .i64 0, v12, .bool false, .int .i64 3, .pointer (some ⟨BV, 0, none⟩), v16, v17, v18, v19, v20, v21, v22, v23, v24, v25, v26, v27, v28, v29, v30, v31, v32, v33, v34, v35, v36, v37, v38, v39, v40, v41, v42, v43, v44, v45, v46, v47, v48, v49, v50, v51, v52, v53, v54, v55, v56, v57, v58, v59, v60, v61, v62, v63, v64, v65, v66, v67, v68, v69, v70, v71, v72, v73, v74, v75, v76, v77, v78, v79, v80, v81, v82, v83, v84, v85, v86, v87, v88, v89, v90, v91, v92, v93, v94, v95, v96, v97, v98, v99, v100, v101, v102, v103, v104, v105, v106, v107, v108, v109, v110, v111, v112, v113, v114, v115, v116, v117, v118, v119, v120, v121, v122, v123, v124, v125, v126, v127], defers := [] } s0) := Lib.hid (by
          intro s0 v2 v3 v4 v5 v9 v12 v16 v17 v18 v19 v20 v21 v22 v23 v24 v25 v26 v27 v28 v29 v30 v31 v32 v33 v34 v35 v36 v37 v38 v39 v40 v41 v42 v43 v44 v45 v46 v47 v48 v49 v50 v51 v52 v53 v54 v55 v56 v57 v58 v59 v60 v61 v62 v63 v64 v65 v66 v67 v68 v69 v70 v71 v72 v73 v74 v75 v76 v77 v78 v79 v80 v81 v82 v83 v84 v85 v86 v87 v88 v89 v90 v91 v92 v93 v94 v95 v96 v97 v98 v99 v100 v101 v102 v103 v104 v105 v106 v107 v108 v109 v110 v111 v112 v113 v114 v115 v116 v117 v118 v119 v120 v121 v122 v123 v124 v125 v126 v127 BV A6 c6 hy hxv hll
          have HBy := Lib.hid (HB0.out.trans (hy.mono HB0.out.size)); have HRy := Lib.hid (HR0.out.later hy); have X6y : Hid (s0.heap[B6]? = some (.cells #[.slice (some ⟨g, 0, none⟩) 1000 cap] 24 (0, 0))) := Lib.hid ((hy.block _ (Array.getElem?_eq_some_iff.1 X60.out).1).trans X60.out); have X8y := Lib.hid (X80.out.later hy); have XVy := Lib.hid hxv; have HLy := Lib.hid hll
          clear hy HB0 HR0 X60 X80 HN0 HS hxv hll
          refine HK17 _ _ ?_
          clear HK17
          go_wp2_with fail
          generalize hs0w : s0 = w2 at HBy HRy X6y X8y XVy HLy ⊢
          clear hs0w
          obtain ⟨n0, hn0⟩ : ∃ n0, n0 = w2.drew.heap.size := ⟨_, rfl⟩
          rename_i K18 HK18
          refine wp_region_flow (by kernel_rfl) (Below n0) ?_
          try simp only [Act.put]
          have HN0 := Lib.hid hn0
          clear hn0
          have HB0 := Lib.hid (HBy.out.trans ((Later.drew w2).mono HBy.out.size)); have HR0 := Lib.hid (HRy.out.later (Later.drew w2)); have X60 : Hid (w2.drew.heap[B6]? = some (.cells #[.slice (some ⟨g, 0, none⟩) 1000 cap] 24 (0, 0))) := Lib.hid X6y.out; have X80 : Hid (BoxS w2.drew B8 m) := Lib.hid X8y.out; have XV0 : Hid (w2.drew.heap[BV]? = some (.cells #[.slice A6 999 c6] 24 (0, 0))) := Lib.hid XVy.out; have HL0 := Lib.hid (HLy.out.later (Later.drew w2))
          clear HBy HRy X6y X8y XVy HLy
          generalize BV = BO at XV0 ⊢
          generalize w2.drew = y0 at HB0 HR0 X60 X80 XV0 HL0 HN0 ⊢
          have HS : Hid (Below y0.heap.size y0 y0) := Lib.hid (Below.refl _ _)
          have HEND : Hid (∀ (s0 : World) (v2 v3 v4 v5 v9 v12 v15 v18 v19 v20 v21 v22 v23 v24 v25 v26 v27 v28 v29 v30 v31 v32 v33 v34 v35 v36 v37 v38 v39 v40 v41 v42 v43 v44 v45 v46 v47 v48 v49 v50 v51 v52 v53 v54 v55 v56 v57 v58 v59 v60 v61 v62 v63 v64 v65 v66 v67 v68 v69 v70 v71 v72 v73 v74 v75 v76 v77 v78 v79 v80 v81 v82 v83 v84 v85 v86 v87 v88 v89 v90 v91 v92 v93 v94 v95 v96 v97 v98 v99 v100 v101 v102 v103 v104 v105 v106 v107 v108 v109 v110 v111 v112 v113 v114 v115 v116 v117 v118 v119 v120 v121 v122 v123 v124 v125 v126 v127 : Value) (BW : Nat) (A7 : Option Addr) (c7 : Nat), Below y0.heap.size y0 s0 → s0.heap[BW]? = some (.cells #[.slice A7 1000 c7] 24 (0, 0)) → K18 { tmps := #[.bool false, .slice (some ⟨g, 0, none⟩) 1000 cap, v2, v3, v4, v5, .pointer (some ⟨B6, 0, none⟩), .int .i64 777, .pointer (some ⟨B8, 0, none⟩), v9, .bool false, .int .i64 0, v12, .bool false, .int .i64 3, v15, .pointer (some ⟨BW, 0, none⟩), .int .i64 0, v18, v19, v20, v21, v22, v23, v24, v25, v26, v27, v28, v29, v30, v31, v32, v33, v34, v35, v36, v37, v38, v39, v40, v41, v42, v43, v44, v45, v46, v47, v48, v49, v50, v51, v52, v53, v54, v55, v56, v57, v58, v59, v60, v61, v62, v63, v64, v65, v66, v67, v68, v69, v70, v71, v72, v73, v74, v75, v76, v77, v78, v79, v80, v81, v82, v83, v84, v85, v86, v87, v88, v89, v90, v91, v92, v93, v94, v95, v96, v97, v98, v99, v100, v101, v102, v103, v104, v105, v106, v107, v108, v109, v110, v111, v112, v113, v114, v115, v116, v117, v118, v119, v120, v121, v122, v123, v124, v125, v126, v127], defers := [] } s0) := Lib.hid (by
            intro s0 v2 v3 v4 v5 v9 v12 v15 v18 v19 v20 v21 v22 v23 v24 v25 v26 v27 v28 v29 v30 v31 v32 v33 v34 v35 v36 v37 v38 v39 v40 v41 v42 v43 v44 v45 v46 v47 v48 v49 v50 v51 v52 v53 v54 v55 v56 v57 v58 v59 v60 v61 v62 v63 v64 v65 v66 v67 v68 v69 v70 v71 v72 v73 v74 v75 v76 v77 v78 v79 v80 v81 v82 v83 v84 v85 v86 v87 v88 v89 v90 v91 v92 v93 v94 v95 v96 v97 v98 v99 v100 v101 v102 v103 v104 v105 v106 v107 v108 v109 v110 v111 v112 v113 v114 v115 v116 v117 v118 v119 v120 v121 v122 v123 v124 v125 v126 v127 BW A7 c7 hy hxv
            have HBy := Lib.hid (HB0.out.trans (hy.mono HB0.out.size)); have HRy := Lib.hid (HR0.out.later hy); have X6y : Hid (s0.heap[B6]? = some (.cells #[.slice (some ⟨g, 0, none⟩) 1000 cap] 24 (0, 0))) := Lib.hid ((hy.block _ (Array.getElem?_eq_some_iff.1 X60.out).1).trans X60.out); have X8y := Lib.hid (X80.out.later hy); have XWy := Lib.hid hxv
            clear hy HB0 HR0 X60 X80 HN0 HS hxv XV0 HL0 HM1 HX7
            refine HK18 _ _ ?_
            clear HK18
            have hc6 := cell_of_row _ _ 0 _ _ _ X6y.out
            simp only [List.getElem?_toArray, List.getElem?_cons_zero] at hc6
            go_wp2_with (refine wpList_load_row rfl 30 (.tmp 8) rfl (B8) rfl 30 #[.int .i64 m.author, .int .i64 m.number, .string m.prev, .int .i64 m.time, .int .i64 m.kind, .int .i64 m.a, .int .i64 m.b, .int .i64 m.c, .slice none 0 0, .slice none 0 0, .string m.body, .int .i64 m.key, .string m.dig] (0, 0) _ (X8y.out) Tryz.underlying30 rfl (by kernel_rfl) ?_)
            clear hc6
            have hr1 : SRow (s0.alloc (.cells #[.int .i64 m.author, .int .i64 m.number, .string m.prev, .int .i64 m.time, .int .i64 m.kind, .int .i64 m.a, .int .i64 m.b, .int .i64 m.c, .slice none 0 0, .slice none 0 0, .string m.body, .int .i64 m.key, .string m.dig] 30)) (some ⟨s0.heap.size, 0, none⟩) 1 1 [m] := one_row s0 m
            have HB2 : Hid (Below w.heap.size w (s0.alloc (.cells #[.int .i64 m.author, .int .i64 m.number, .string m.prev, .int .i64 m.time, .int .i64 m.kind, .int .i64 m.a, .int .i64 m.b, .int .i64 m.c, .slice none 0 0, .slice none 0 0, .string m.body, .int .i64 m.key, .string m.dig] 30))) := Lib.hid (HBy.out.trans ((one_new s0 _).mono HBy.out.size))
            have XW2 : Hid ((s0.alloc (.cells #[.int .i64 m.author, .int .i64 m.number, .string m.prev, .int .i64 m.time, .int .i64 m.kind, .int .i64 m.a, .int .i64 m.b, .int .i64 m.c, .slice none 0 0, .slice none 0 0, .string m.body, .int .i64 m.key, .string m.dig] 30)).heap[BW]? = some (.cells #[.slice A7 1000 c7] 24 (0, 0))) := Lib.hid (((one_new s0 (.cells #[.int .i64 m.author, .int .i64 m.number, .string m.prev, .int .i64 m.time, .int .i64 m.kind, .int .i64 m.a, .int .i64 m.b, .int .i64 m.c, .slice none 0 0, .slice none 0 0, .string m.body, .int .i64 m.key, .string m.dig] 30)).block _ (Array.getElem?_eq_some_iff.1 XWy.out).1).trans XWy.out)
            refine (HM2.out _ _ _ HB2.out (HRy.out.later (one_new s0 _)) hr1).mono ?_
            rintro e s1 ⟨A8, n8, c8, rfl, hb⟩
            have HB3 : Hid (Below w.heap.size w (s1.alloc (.cells #[.slice A8 n8 c8] 24))) := Lib.hid ((HB2.out.trans (hb.mono HB2.out.size)).trans ((one_new s1 _).mono (by have := HB2.out.size; have := hb.size; omega)))
            have XW3 : Hid ((s1.alloc (.cells #[.slice A8 n8 c8] 24)).heap[BW]? = some (.cells #[.slice A7 1000 c7] 24 (0, 0))) := Lib.hid (by
              have h1 := (hb.block _ (Array.getElem?_eq_some_iff.1 XW2.out).1).trans XW2.out
              exact ((one_new s1 (.cells #[.slice A8 n8 c8] 24)).block _ (Array.getElem?_eq_some_iff.1 h1).1).trans h1)
            clear hb hr1 HB2 XW2 HBy HRy X6y X8y XWy HM2
            go_wp2_with (refine wpList_store_new rfl 24 (.tmp 18) (.tmp 88) rfl 24 _ #[.slice A8 n8 c8] rfl rfl (by kernel_rfl) rfl (by simp [Value.oneCell']) ?_)
            generalize s1.alloc (.cells #[.slice A8 n8 c8] 24) = s2 at HB3 XW3 ⊢
            refine (HAW.out s2 HB3.out).mono ?_
            rintro e s3 ⟨rfl, hb⟩
            have HB4 := Lib.hid (HB3.out.trans (hb.mono HB3.out.size))
            have hcw := cell_of_row _ _ 0 _ _ _ ((hb.block _ (Array.getElem?_eq_some_iff.1 XW3.out).1).trans XW3.out)
            simp only [List.getElem?_toArray, List.getElem?_cons_zero] at hcw
            clear hb HB3 XW3 HAW
            go_wp2_with fail
            go_ret
            exact ⟨rfl, HB4.out⟩
            )
          clear HK18 HM2 HAW
          have hc6 : ∀ z, (fut (Below n0) y0 z).cell? ⟨BO, 0, none⟩ = some (.slice A6 999 c6) := fun z => by
            have h3 := cell_of_row _ _ 0 _ _ _ (((fut_ok (F := Below n0) (fun _ => Below.refl _ _) y0 z).block _ (by have h1 := HN0.out; have h2 := (Array.getElem?_eq_some_iff.1 XV0.out).1; omega)).trans XV0.out)
            simpa using h3
          obtain ⟨bb, oo, hA, hf0, hf1, hf2, hf3, hf4, hf5, hf6, hf7, hf8, hf9, hf10, hf11, hf12⟩ := SRow.futs (F := Below n0) (fun _ => Below.refl _ _) (fun w' h => h.mono (Nat.le_of_eq HN0.out.symm)) HR0.out 777 (by omega)
          injection hA with hA
          injection hA with e1 e2
          subst e1 e2
          have e777 : F.getD 777 noStm = x := HX7.out
          simp only [e777, Nat.zero_add, Nat.reduceMul, Nat.reduceAdd] at hf0 hf1 hf2 hf3 hf4 hf5 hf6 hf7 hf8 hf9 hf10 hf11 hf12
          clear e777
          refine flow_reads (F := Below n0) (fun _ => Below.refl _ _) (by kernel_rfl) [0, 1, 2, 3, 4] (fuel := 9) (by kernel_rfl) ?_
          simp only [List.map_cons, List.map_nil, pick, List.getD_cons_zero, List.getD_cons_succ]
          repeat (go_big_quiet_step (fail))
          refine wpQuiet_nil ?_
          clear hc6 hf0 hf1 hf2 hf3 hf4 hf5 hf6 hf7 hf8 hf9 hf10 hf11 hf12
          refine flow_two (F := Below n0) (fun _ _ _ h k => Below.trans h k) (fun _ => Below.refl _ _) 5 11 (by kernel_rfl) (by decide) (by decide) ?_ ?_ <;> simp only [pick, List.getD_cons_zero, List.getD_cons_succ]
          · go_wp2_with fail
            refine pieceEnd_normal ⟨(one_new y0 _).mono (by have h1 := HN0.out; have h2 := HS.out.size; omega), ?_⟩
            obtain ⟨BR, hBR⟩ : ∃ B, B = y0.heap.size := ⟨_, rfl⟩
            have XR : Hid ((y0.alloc (.cells #[.int .i64 x.author, .int .i64 x.number, .string x.prev, .int .i64 x.time, .int .i64 x.kind, .int .i64 x.a, .int .i64 x.b, .int .i64 x.c, .slice none 0 0, .slice none 0 0, .string x.body, .int .i64 x.key, .string x.dig] 30)).heap[BR]? = some (.cells #[.int .i64 x.author, .int .i64 x.number, .string x.prev, .int .i64 x.time, .int .i64 x.kind, .int .i64 x.a, .int .i64 x.b, .int .i64 x.c, .slice none 0 0, .slice none 0 0, .string x.body, .int .i64 x.key, .string x.dig] 30 (0, 0))) := Lib.hid (by rw [hBR]; exact heap_alloc_new _ _)
            have HNR : Hid (y0.heap.size ≤ BR) := Lib.hid (by rw [hBR]; exact HS.out.size)
            replace HS : Hid (Below y0.heap.size y0 (y0.alloc (.cells #[.int .i64 x.author, .int .i64 x.number, .string x.prev, .int .i64 x.time, .int .i64 x.kind, .int .i64 x.a, .int .i64 x.b, .int .i64 x.c, .slice none 0 0, .slice none 0 0, .string x.body, .int .i64 x.key, .string x.dig] 30))) := Lib.hid (HS.out.trans ((one_new y0 _).mono HS.out.size))
            try rw [← hBR]
            clear hBR
            generalize y0.alloc (.cells #[.int .i64 x.author, .int .i64 x.number, .string x.prev, .int .i64 x.time, .int .i64 x.kind, .int .i64 x.a, .int .i64 x.b, .int .i64 x.c, .slice none 0 0, .slice none 0 0, .string x.body, .int .i64 x.key, .string x.dig] 30) = q18 at *
            have XR2 := Lib.hid (show SRow q18 (some ⟨BR, 0, none⟩) 1 1 [x] from Row.of_block XR.out rfl)
            clear XR HNR
            refine flow_val (F := Below n0) (fun _ => Below.refl _ _) (by kernel_rfl) 6 (by kernel_rfl) ?_
            simp only [pick, List.getD_cons_zero, List.getD_cons_succ]
            repeat (go_big_quiet_step (fail))
            refine wpQuiet_nil ?_
            refine flow_two (F := Below n0) (fun _ _ _ h k => Below.trans h k) (fun _ => Below.refl _ _) 7 11 (by kernel_rfl) (by decide) (by decide) ?_ ?_ <;> simp only [pick, List.getD_cons_zero, List.getD_cons_succ]
            · go_wp2_with fail
              refine (HM1.out q18 A6 c6 (some ⟨BR, 0, none⟩) 1 (HB0.out.trans (HS.out.mono HB0.out.size)) (HL0.out.later HS.out) XR2.out).mono ?_
              rintro e q19 ⟨A7, c7, rfl, hb⟩
              have hf : Below n0 _ _ := hb.mono (by have h1 := HN0.out; have h2 := HS.out.size; omega)
              replace HS := Lib.hid (HS.out.trans (hb.mono HS.out.size))
              clear hb
              go_wp2_with fail
              refine pieceEnd_normal ⟨hf, ?_⟩
              clear hf
              clear XR2
              refine flow_reads (F := Below n0) (fun _ => Below.refl _ _) (by kernel_rfl) [8, 9, 10] (fuel := 3) (by kernel_rfl) ?_
              simp only [List.map_cons, List.map_nil, pick, List.getD_cons_zero, List.getD_cons_succ]
              repeat (go_big_quiet_step (fail))
              refine wpQuiet_nil ?_
              refine flow_one (F := Below n0) (fun _ _ _ h k => Below.trans h k) (fun _ => Below.refl _ _) 11 (by kernel_rfl) (by decide) ?_
              simp only [pick, List.getD_cons_zero, List.getD_cons_succ]
              go_wp2_with fail
              refine pieceEnd_normal ⟨(one_new q19 _).mono (by have h1 := HN0.out; have h2 := HS.out.size; omega), ?_⟩
              obtain ⟨BV, hBV⟩ : ∃ B, B = q19.heap.size := ⟨_, rfl⟩
              have XV : Hid ((q19.alloc (.cells #[.slice none 0 0] 24)).heap[BV]? = some (.cells #[.slice none 0 0] 24 (0, 0))) := Lib.hid (by rw [hBV]; exact heap_alloc_new _ _)
              have HNV : Hid (y0.heap.size ≤ BV) := Lib.hid (by rw [hBV]; exact HS.out.size)
              replace HS : Hid (Below y0.heap.size y0 (q19.alloc (.cells #[.slice none 0 0] 24))) := Lib.hid (HS.out.trans ((one_new q19 _).mono HS.out.size))
              try rw [← hBV]
              clear hBV
              generalize q19.alloc (.cells #[.slice none 0 0] 24) = q20 at *
              refine flow_one (F := Below n0) (fun _ _ _ h k => Below.trans h k) (fun _ => Below.refl _ _) 12 (by kernel_rfl) (by decide) ?_
              simp only [pick, List.getD_cons_zero, List.getD_cons_succ]
              go_wp2_with (refine wpList_store_row rfl 24 (.tmp 16) (.tmp 80) rfl BV #[.slice A7 1000 c7] rfl rfl 24 _ XV.out (by kernel_rfl) rfl (by simp [Value.oneCell']) ?_)
              refine pieceEnd_normal ⟨below_setRow (Below.refl _ _) (by have h1 := HN0.out; have h2 := HNV.out; omega) _, ?_⟩
              replace HS : Hid (Below y0.heap.size y0 (q20.setRow BV #[.slice A7 1000 c7])) := Lib.hid (below_setRow HS.out HNV.out _)
              have XW : Hid ((q20.setRow BV #[.slice A7 1000 c7]).heap[BV]? = some (.cells #[.slice A7 1000 c7] 24 (0, 0))) := Lib.hid (setRow_heap _ _ _ _ _ _ XV.out)
              clear XV HNV
              generalize q20.setRow BV #[.slice A7 1000 c7] = q21 at *
              refine flow_reads (F := Below n0) (fun _ => Below.refl _ _) (by kernel_rfl) [13] (fuel := 0) (by kernel_rfl) ?_
              simp only [List.map_cons, List.map_nil, pick, List.getD_cons_zero, List.getD_cons_succ]
              repeat (go_big_quiet_step (fail))
              refine wpQuiet_nil ?_
              refine flow_done (by kernel_rfl) ?_
              exact HEND.out _ _ _ _ _ _ _ _ _ _ _ _ _ _ _ _ _ _ _ _ _ _ _ _ _ _ _ _ _ _ _ _ _ _ _ _ _ _ _ _ _ _ _ _ _ _ _ _ _ _ _ _ _ _ _ _ _ _ _ _ _ _ _ _ _ _ _ _ _ _ _ _ _ _ _ _ _ _ _ _ _ _ _ _ _ _ _ _ _ _ _ _ _ _ _ _ _ _ _ _ _ _ _ _ _ _ _ _ _ _ _ _ _ _ _ _ _ _ BV A7 c7 HS.out XW.out
            · go_wp2_with fail
              refine pieceEnd_normal ⟨(one_new q18 _).mono (by have h1 := HN0.out; have h2 := HS.out.size; omega), ?_⟩
              obtain ⟨BV, hBV⟩ : ∃ B, B = q18.heap.size := ⟨_, rfl⟩
              have XV : Hid ((q18.alloc (.cells #[.slice none 0 0] 24)).heap[BV]? = some (.cells #[.slice none 0 0] 24 (0, 0))) := Lib.hid (by rw [hBV]; exact heap_alloc_new _ _)
              have HNV : Hid (y0.heap.size ≤ BV) := Lib.hid (by rw [hBV]; exact HS.out.size)
              replace XR2 := Lib.hid (XR2.out.later (one_new q18 (.cells #[.slice none 0 0] 24)))
              replace HS : Hid (Below y0.heap.size y0 (q18.alloc (.cells #[.slice none 0 0] 24))) := Lib.hid (HS.out.trans ((one_new q18 _).mono HS.out.size))
              try rw [← hBV]
              clear hBV
              generalize q18.alloc (.cells #[.slice none 0 0] 24) = q22 at *
              refine flow_one (F := Below n0) (fun _ _ _ h k => Below.trans h k) (fun _ => Below.refl _ _) 7 (by kernel_rfl) (by decide) ?_
              simp only [pick, List.getD_cons_zero, List.getD_cons_succ]
              go_wp2_with fail
              refine (HM1.out q22 A6 c6 (some ⟨BR, 0, none⟩) 1 (HB0.out.trans (HS.out.mono HB0.out.size)) (HL0.out.later HS.out) XR2.out).mono ?_
              rintro e q23 ⟨A7, c7, rfl, hb⟩
              have hf : Below n0 _ _ := hb.mono (by have h1 := HN0.out; have h2 := HS.out.size; omega)
              replace HS := Lib.hid (HS.out.trans (hb.mono HS.out.size))
              replace XV := Lib.hid ((hb.block _ (Array.getElem?_eq_some_iff.1 XV.out).1).trans XV.out)
              clear hb
              go_wp2_with fail
              refine pieceEnd_normal ⟨hf, ?_⟩
              clear hf
              clear XR2
              refine flow_reads (F := Below n0) (fun _ => Below.refl _ _) (by kernel_rfl) [8, 9, 10] (fuel := 2) (by kernel_rfl) ?_
              simp only [List.map_cons, List.map_nil, pick, List.getD_cons_zero, List.getD_cons_succ]
              repeat (go_big_quiet_step (fail))
              refine wpQuiet_nil ?_
              refine flow_one (F := Below n0) (fun _ _ _ h k => Below.trans h k) (fun _ => Below.refl _ _) 12 (by kernel_rfl) (by decide) ?_
              simp only [pick, List.getD_cons_zero, List.getD_cons_succ]
              go_wp2_with (refine wpList_store_row rfl 24 (.tmp 16) (.tmp 80) rfl BV #[.slice A7 1000 c7] rfl rfl 24 _ XV.out (by kernel_rfl) rfl (by simp [Value.oneCell']) ?_)
              refine pieceEnd_normal ⟨below_setRow (Below.refl _ _) (by have h1 := HN0.out; have h2 := HNV.out; omega) _, ?_⟩
              replace HS : Hid (Below y0.heap.size y0 (q23.setRow BV #[.slice A7 1000 c7])) := Lib.hid (below_setRow HS.out HNV.out _)
              have XW : Hid ((q23.setRow BV #[.slice A7 1000 c7]).heap[BV]? = some (.cells #[.slice A7 1000 c7] 24 (0, 0))) := Lib.hid (setRow_heap _ _ _ _ _ _ XV.out)
              clear XV HNV
              generalize q23.setRow BV #[.slice A7 1000 c7] = q24 at *
              refine flow_reads (F := Below n0) (fun _ => Below.refl _ _) (by kernel_rfl) [13] (fuel := 0) (by kernel_rfl) ?_
              simp only [List.map_cons, List.map_nil, pick, List.getD_cons_zero, List.getD_cons_succ]
              repeat (go_big_quiet_step (fail))
              refine wpQuiet_nil ?_
              refine flow_done (by kernel_rfl) ?_
              exact HEND.out _ _ _ _ _ _ _ _ _ _ _ _ _ _ _ _ _ _ _ _ _ _ _ _ _ _ _ _ _ _ _ _ _ _ _ _ _ _ _ _ _ _ _ _ _ _ _ _ _ _ _ _ _ _ _ _ _ _ _ _ _ _ _ _ _ _ _ _ _ _ _ _ _ _ _ _ _ _ _ _ _ _ _ _ _ _ _ _ _ _ _ _ _ _ _ _ _ _ _ _ _ _ _ _ _ _ _ _ _ _ _ _ _ _ _ _ _ _ BV A7 c7 HS.out XW.out
          · go_wp2_with fail
            refine pieceEnd_normal ⟨(one_new y0 _).mono (by have h1 := HN0.out; have h2 := HS.out.size; omega), ?_⟩
            obtain ⟨BV, hBV⟩ : ∃ B, B = y0.heap.size := ⟨_, rfl⟩
            have XV : Hid ((y0.alloc (.cells #[.slice none 0 0] 24)).heap[BV]? = some (.cells #[.slice none 0 0] 24 (0, 0))) := Lib.hid (by rw [hBV]; exact heap_alloc_new _ _)
            have HNV : Hid (y0.heap.size ≤ BV) := Lib.hid (by rw [hBV]; exact HS.out.size)
            replace HS : Hid (Below y0.heap.size y0 (y0.alloc (.cells #[.slice none 0 0] 24))) := Lib.hid (HS.out.trans ((one_new y0 _).mono HS.out.size))
            try rw [← hBV]
            clear hBV
            generalize y0.alloc (.cells #[.slice none 0 0] 24) = q25 at *
            refine flow_one (F := Below n0) (fun _ _ _ h k => Below.trans h k) (fun _ => Below.refl _ _) 5 (by kernel_rfl) (by decide) ?_
            simp only [pick, List.getD_cons_zero, List.getD_cons_succ]
            go_wp2_with fail
            refine pieceEnd_normal ⟨(one_new q25 _).mono (by have h1 := HN0.out; have h2 := HS.out.size; omega), ?_⟩
            obtain ⟨BR, hBR⟩ : ∃ B, B = q25.heap.size := ⟨_, rfl⟩
            have XR : Hid ((q25.alloc (.cells #[.int .i64 x.author, .int .i64 x.number, .string x.prev, .int .i64 x.time, .int .i64 x.kind, .int .i64 x.a, .int .i64 x.b, .int .i64 x.c, .slice none 0 0, .slice none 0 0, .string x.body, .int .i64 x.key, .string x.dig] 30)).heap[BR]? = some (.cells #[.int .i64 x.author, .int .i64 x.number, .string x.prev, .int .i64 x.time, .int .i64 x.kind, .int .i64 x.a, .int .i64 x.b, .int .i64 x.c, .slice none 0 0, .slice none 0 0, .string x.body, .int .i64 x.key, .string x.dig] 30 (0, 0))) := Lib.hid (by rw [hBR]; exact heap_alloc_new _ _)
            have HNR : Hid (y0.heap.size ≤ BR) := Lib.hid (by rw [hBR]; exact HS.out.size)
            replace XV := Lib.hid (((one_new q25 (.cells #[.int .i64 x.author, .int .i64 x.number, .string x.prev, .int .i64 x.time, .int .i64 x.kind, .int .i64 x.a, .int .i64 x.b, .int .i64 x.c, .slice none 0 0, .slice none 0 0, .string x.body, .int .i64 x.key, .string x.dig] 30)).block _ (Array.getElem?_eq_some_iff.1 XV.out).1).trans XV.out)
            replace HS : Hid (Below y0.heap.size y0 (q25.alloc (.cells #[.int .i64 x.author, .int .i64 x.number, .string x.prev, .int .i64 x.time, .int .i64 x.kind, .int .i64 x.a, .int .i64 x.b, .int .i64 x.c, .slice none 0 0, .slice none 0 0, .string x.body, .int .i64 x.key, .string x.dig] 30))) := Lib.hid (HS.out.trans ((one_new q25 _).mono HS.out.size))
            try rw [← hBR]
            clear hBR
            generalize q25.alloc (.cells #[.int .i64 x.author, .int .i64 x.number, .string x.prev, .int .i64 x.time, .int .i64 x.kind, .int .i64 x.a, .int .i64 x.b, .int .i64 x.c, .slice none 0 0, .slice none 0 0, .string x.body, .int .i64 x.key, .string x.dig] 30) = q26 at *
            have XR2 := Lib.hid (show SRow q26 (some ⟨BR, 0, none⟩) 1 1 [x] from Row.of_block XR.out rfl)
            clear XR HNR
            refine flow_val (F := Below n0) (fun _ => Below.refl _ _) (by kernel_rfl) 6 (by kernel_rfl) ?_
            simp only [pick, List.getD_cons_zero, List.getD_cons_succ]
            repeat (go_big_quiet_step (fail))
            refine wpQuiet_nil ?_
            refine flow_one (F := Below n0) (fun _ _ _ h k => Below.trans h k) (fun _ => Below.refl _ _) 7 (by kernel_rfl) (by decide) ?_
            simp only [pick, List.getD_cons_zero, List.getD_cons_succ]
            go_wp2_with fail
            refine (HM1.out q26 A6 c6 (some ⟨BR, 0, none⟩) 1 (HB0.out.trans (HS.out.mono HB0.out.size)) (HL0.out.later HS.out) XR2.out).mono ?_
            rintro e q27 ⟨A7, c7, rfl, hb⟩
            have hf : Below n0 _ _ := hb.mono (by have h1 := HN0.out; have h2 := HS.out.size; omega)
            replace HS := Lib.hid (HS.out.trans (hb.mono HS.out.size))
            replace XV := Lib.hid ((hb.block _ (Array.getElem?_eq_some_iff.1 XV.out).1).trans XV.out)
            clear hb
            go_wp2_with fail
            refine pieceEnd_normal ⟨hf, ?_⟩
            clear hf
            clear XR2
            refine flow_reads (F := Below n0) (fun _ => Below.refl _ _) (by kernel_rfl) [8, 9, 10] (fuel := 2) (by kernel_rfl) ?_
            simp only [List.map_cons, List.map_nil, pick, List.getD_cons_zero, List.getD_cons_succ]
            repeat (go_big_quiet_step (fail))
            refine wpQuiet_nil ?_
            refine flow_one (F := Below n0) (fun _ _ _ h k => Below.trans h k) (fun _ => Below.refl _ _) 12 (by kernel_rfl) (by decide) ?_
            simp only [pick, List.getD_cons_zero, List.getD_cons_succ]
            go_wp2_with (refine wpList_store_row rfl 24 (.tmp 16) (.tmp 80) rfl BV #[.slice A7 1000 c7] rfl rfl 24 _ XV.out (by kernel_rfl) rfl (by simp [Value.oneCell']) ?_)
            refine pieceEnd_normal ⟨below_setRow (Below.refl _ _) (by have h1 := HN0.out; have h2 := HNV.out; omega) _, ?_⟩
            replace HS : Hid (Below y0.heap.size y0 (q27.setRow BV #[.slice A7 1000 c7])) := Lib.hid (below_setRow HS.out HNV.out _)
            have XW : Hid ((q27.setRow BV #[.slice A7 1000 c7]).heap[BV]? = some (.cells #[.slice A7 1000 c7] 24 (0, 0))) := Lib.hid (setRow_heap _ _ _ _ _ _ XV.out)
            clear XV HNV
            generalize q27.setRow BV #[.slice A7 1000 c7] = q28 at *
            refine flow_reads (F := Below n0) (fun _ => Below.refl _ _) (by kernel_rfl) [13] (fuel := 0) (by kernel_rfl) ?_
            simp only [List.map_cons, List.map_nil, pick, List.getD_cons_zero, List.getD_cons_succ]
            repeat (go_big_quiet_step (fail))
            refine wpQuiet_nil ?_
            refine flow_done (by kernel_rfl) ?_
            exact HEND.out _ _ _ _ _ _ _ _ _ _ _ _ _ _ _ _ _ _ _ _ _ _ _ _ _ _ _ _ _ _ _ _ _ _ _ _ _ _ _ _ _ _ _ _ _ _ _ _ _ _ _ _ _ _ _ _ _ _ _ _ _ _ _ _ _ _ _ _ _ _ _ _ _ _ _ _ _ _ _ _ _ _ _ _ _ _ _ _ _ _ _ _ _ _ _ _ _ _ _ _ _ _ _ _ _ _ _ _ _ _ _ _ _ _ _ _ _ _ BV A7 c7 HS.out XW.out
          )
        clear HK17 HM1 HM2 HAW HX7
        have hs1 := fun w => run_slice_to (P := Tryz.prog) (t := 22) Tryz.underlying22 stm_size (k := 777) HR0.out (i := 777) rfl (by omega) .i64 w
        have hs2 := fun w => run_slice_from (P := Tryz.prog) (t := 22) Tryz.underlying22 stm_size (A := (some ⟨g, 0, none⟩)) (n := 1000) (c := cap) (k := 778) (i := 778) rfl (by omega) .i64 w
        refine flow_reads (F := Below n0) (fun _ => Below.refl _ _) (by kernel_rfl) [0, 1, 2, 4, 5, 6, 7] (fuel := 5) (by kernel_rfl) ?_
        simp only [List.map_cons, List.map_nil, pick, List.getD_cons_zero, List.getD_cons_succ]
        repeat (go_big_quiet_step (fail))
        refine wpQuiet_nil ?_
        clear hs1 hs2
        refine flow_two (F := Below n0) (fun _ _ _ h k => Below.trans h k) (fun _ => Below.refl _ _) 3 10 (by kernel_rfl) (by decide) (by decide) ?_ ?_ <;> simp only [pick, List.getD_cons_zero, List.getD_cons_succ]
        · go_wp2_with (at_builtin; go_must (refine wpList_appK y0 rfl (.const (.slice none 0 0)) (.tmp 63) 22 22 30 rfl y0.heap.size Tryz.underlying22 stm_info2 rfl _ 0 [] (World.ownsRow_nil _ _ _ _) rfl (.slice (some ⟨g, 0, none⟩) 777 cap) 777 (stmsC la) ((HTK.out _ (HR0.out.later HS.out)).src Tryz.underlying22 (stmsC_one _)) rfl (by unfold maxLen; omega) (by omega) (Nat.le_refl _) ?_); intro v2 q7 ho hb hk; obtain ⟨A2, c2, hv2, hr2⟩ := Row.of_own ho; subst hv2; have HOx := Lib.hid ho; have HBx := Lib.hid hb; clear ho hb hk hr2)
          refine pieceEnd_normal ⟨HBx.out.mono (by have h1 := HN0.out; have h2 := HS.out.size; omega), ?_⟩
          obtain ⟨B1, hB1⟩ : ∃ B1, B1 = y0.heap.size := ⟨_, rfl⟩
          have XA : Hid (q7.ownsRow B1 30 13 (.slice A2 777 c2) 777 (stmsC la)) := Lib.hid (by rw [hB1]; have h := HOx.out; rw [Nat.zero_add, List.nil_append] at h; exact h)
          have HBA : Hid (y0.heap.size ≤ B1) := Lib.hid (by rw [hB1]; exact HS.out.size)
          have HBL : Hid (B1 ≤ q7.heap.size) := Lib.hid (by rw [hB1]; exact HBx.out.size)
          replace HS := Lib.hid (HS.out.trans (HBx.out.mono HS.out.size))
          clear HOx HBx hB1
          refine flow_two (F := Below n0) (fun _ _ _ h k => Below.trans h k) (fun _ => Below.refl _ _) 8 10 (by kernel_rfl) (by decide) (by decide) ?_ ?_ <;> simp only [pick, List.getD_cons_zero, List.getD_cons_succ]
          · go_wp2_with (at_builtin; go_must (refine wpList_appK q7 rfl (.tmp 64) (.tmp 68) 22 22 30 rfl B1 Tryz.underlying22 stm_info2 rfl _ 777 (stmsC la) XA.out rfl (.slice (dropA (some ⟨g, 0, none⟩) cap 778 13) (1000 - 778) (cap - 778)) 222 (stmsC lb) ((HDR.out _ (HR0.out.later HS.out)).src Tryz.underlying22 (stmsC_one _)) rfl (by unfold maxLen; omega) (by omega) HBL.out ?_); intro v3 q8 ho hb hk; obtain ⟨A3, c3, hv3, hr3⟩ := Row.of_own ho; subst hv3; have HOx := Lib.hid ho; have HBx := Lib.hid hb; have HKx := Lib.hid hk; clear ho hb hk hr3)
            refine pieceEnd_normal ⟨HBx.out.mono (by have h1 := HN0.out; have h2 := HBA.out; omega), ?_⟩
            have XO : Hid (q8.ownsRow B1 30 13 (.slice A3 999 c3) 999 (stmsC ll)) := Lib.hid (by have h := HOx.out; rw [HLS.out] at h; exact h)
            replace HS := Lib.hid (HS.out.trans (HBx.out.mono HBA.out))
            clear HOx HBx HKx XA HBA HBL
            refine flow_val (F := Below n0) (fun _ => Below.refl _ _) (by kernel_rfl) 9 (by kernel_rfl) ?_
            simp only [pick, List.getD_cons_zero, List.getD_cons_succ]
            repeat (go_big_quiet_step (fail))
            refine wpQuiet_nil ?_
            refine flow_one (F := Below n0) (fun _ _ _ h k => Below.trans h k) (fun _ => Below.refl _ _) 10 (by kernel_rfl) (by decide) ?_
            simp only [pick, List.getD_cons_zero, List.getD_cons_succ]
            go_wp2_with fail
            refine pieceEnd_normal ⟨(one_new q8 _).mono (by have h1 := HN0.out; have h2 := HS.out.size; omega), ?_⟩
            obtain ⟨BV, hBV⟩ : ∃ B, B = q8.heap.size := ⟨_, rfl⟩
            have XV : Hid ((q8.alloc (.cells #[.slice none 0 0] 24)).heap[BV]? = some (.cells #[.slice none 0 0] 24 (0, 0))) := Lib.hid (by rw [hBV]; exact heap_alloc_new _ _)
            have HNV : Hid (y0.heap.size ≤ BV) := Lib.hid (by rw [hBV]; exact HS.out.size)
            replace XO := Lib.hid (own_below XO.out (one_new q8 (.cells #[.slice none 0 0] 24)) (own_lt XO.out))
            replace HS : Hid (Below y0.heap.size y0 (q8.alloc (.cells #[.slice none 0 0] 24))) := Lib.hid (HS.out.trans ((one_new q8 _).mono HS.out.size))
            try rw [← hBV]
            clear hBV
            generalize q8.alloc (.cells #[.slice none 0 0] 24) = q9 at *
            refine flow_one (F := Below n0) (fun _ _ _ h k => Below.trans h k) (fun _ => Below.refl _ _) 11 (by kernel_rfl) (by decide) ?_
            simp only [pick, List.getD_cons_zero, List.getD_cons_succ]
            go_wp2_with (refine wpList_store_row rfl 24 (.tmp 15) (.tmp 70) rfl BV #[.slice A3 999 c3] rfl rfl 24 _ XV.out (by kernel_rfl) rfl (by simp [Value.oneCell']) ?_)
            refine pieceEnd_normal ⟨below_setRow (Below.refl _ _) (by have h1 := HN0.out; have h2 := HNV.out; omega) _, ?_⟩
            replace HS : Hid (Below y0.heap.size y0 (q9.setRow BV #[.slice A3 999 c3])) := Lib.hid (below_setRow HS.out HNV.out _)
            have XW : Hid ((q9.setRow BV #[.slice A3 999 c3]).heap[BV]? = some (.cells #[.slice A3 999 c3] 24 (0, 0))) := Lib.hid (setRow_heap _ _ _ _ _ _ XV.out)
            have XL : Hid (SRow (q9.setRow BV #[.slice A3 999 c3]) A3 999 c3 ll) := Lib.hid (own_row_set XO.out XV.out (by decide))
            clear XO
            clear XV HNV
            generalize q9.setRow BV #[.slice A3 999 c3] = q10 at *
            refine flow_done (by kernel_rfl) ?_
            exact HEND.out _ _ _ _ _ _ _ _ _ _ _ _ _ _ _ _ _ _ _ _ _ _ _ _ _ _ _ _ _ _ _ _ _ _ _ _ _ _ _ _ _ _ _ _ _ _ _ _ _ _ _ _ _ _ _ _ _ _ _ _ _ _ _ _ _ _ _ _ _ _ _ _ _ _ _ _ _ _ _ _ _ _ _ _ _ _ _ _ _ _ _ _ _ _ _ _ _ _ _ _ _ _ _ _ _ _ _ _ _ _ _ _ _ _ _ _ _ _ _ BV A3 c3 HS.out XW.out XL.out
          · go_wp2_with fail
            refine pieceEnd_normal ⟨(one_new q7 _).mono (by have h1 := HN0.out; have h2 := HS.out.size; omega), ?_⟩
            obtain ⟨BV, hBV⟩ : ∃ B, B = q7.heap.size := ⟨_, rfl⟩
            have XV : Hid ((q7.alloc (.cells #[.slice none 0 0] 24)).heap[BV]? = some (.cells #[.slice none 0 0] 24 (0, 0))) := Lib.hid (by rw [hBV]; exact heap_alloc_new _ _)
            have HNV : Hid (y0.heap.size ≤ BV) := Lib.hid (by rw [hBV]; exact HS.out.size)
            have HNE : Hid (∀ k, Value.ownBlock (.slice A2 777 c2) = some k → k ≠ BV) := Lib.hid fun k e => by have h1 := (World.ownsRow.lt XA.out k e).2; omega
            replace XA := Lib.hid (own_below XA.out (one_new q7 (.cells #[.slice none 0 0] 24)) (own_lt XA.out)); replace HBL := Lib.hid (Nat.le_trans HBL.out (one_new q7 (.cells #[.slice none 0 0] 24)).size)
            replace HS : Hid (Below y0.heap.size y0 (q7.alloc (.cells #[.slice none 0 0] 24))) := Lib.hid (HS.out.trans ((one_new q7 _).mono HS.out.size))
            try rw [← hBV]
            clear hBV
            generalize q7.alloc (.cells #[.slice none 0 0] 24) = q11 at *
            refine flow_one (F := Below n0) (fun _ _ _ h k => Below.trans h k) (fun _ => Below.refl _ _) 8 (by kernel_rfl) (by decide) ?_
            simp only [pick, List.getD_cons_zero, List.getD_cons_succ]
            go_wp2_with (at_builtin; go_must (refine wpList_appK q11 rfl (.tmp 64) (.tmp 68) 22 22 30 rfl B1 Tryz.underlying22 stm_info2 rfl _ 777 (stmsC la) XA.out rfl (.slice (dropA (some ⟨g, 0, none⟩) cap 778 13) (1000 - 778) (cap - 778)) 222 (stmsC lb) ((HDR.out _ (HR0.out.later HS.out)).src Tryz.underlying22 (stmsC_one _)) rfl (by unfold maxLen; omega) (by omega) HBL.out ?_); intro v3 q12 ho hb hk; obtain ⟨A3, c3, hv3, hr3⟩ := Row.of_own ho; subst hv3; have HOx := Lib.hid ho; have HBx := Lib.hid hb; have HKx := Lib.hid hk; clear ho hb hk hr3)
            refine pieceEnd_normal ⟨HBx.out.mono (by have h1 := HN0.out; have h2 := HBA.out; omega), ?_⟩
            have XO : Hid (q12.ownsRow B1 30 13 (.slice A3 999 c3) 999 (stmsC ll)) := Lib.hid (by have h := HOx.out; rw [HLS.out] at h; exact h)
            replace XV := Lib.hid ((HKx.out _ (Array.getElem?_eq_some_iff.1 XV.out).1 (fun e => HNE.out _ e rfl)).trans XV.out)
            replace HS := Lib.hid (HS.out.trans (HBx.out.mono HBA.out))
            clear HOx HBx HKx XA HBA HBL
            clear HNE
            refine flow_val (F := Below n0) (fun _ => Below.refl _ _) (by kernel_rfl) 9 (by kernel_rfl) ?_
            simp only [pick, List.getD_cons_zero, List.getD_cons_succ]
            repeat (go_big_quiet_step (fail))
            refine wpQuiet_nil ?_
            refine flow_one (F := Below n0) (fun _ _ _ h k => Below.trans h k) (fun _ => Below.refl _ _) 11 (by kernel_rfl) (by decide) ?_
            simp only [pick, List.getD_cons_zero, List.getD_cons_succ]
            go_wp2_with (refine wpList_store_row rfl 24 (.tmp 15) (.tmp 70) rfl BV #[.slice A3 999 c3] rfl rfl 24 _ XV.out (by kernel_rfl) rfl (by simp [Value.oneCell']) ?_)
            refine pieceEnd_normal ⟨below_setRow (Below.refl _ _) (by have h1 := HN0.out; have h2 := HNV.out; omega) _, ?_⟩
            replace HS : Hid (Below y0.heap.size y0 (q12.setRow BV #[.slice A3 999 c3])) := Lib.hid (below_setRow HS.out HNV.out _)
            have XW : Hid ((q12.setRow BV #[.slice A3 999 c3]).heap[BV]? = some (.cells #[.slice A3 999 c3] 24 (0, 0))) := Lib.hid (setRow_heap _ _ _ _ _ _ XV.out)
            have XL : Hid (SRow (q12.setRow BV #[.slice A3 999 c3]) A3 999 c3 ll) := Lib.hid (own_row_set XO.out XV.out (by decide))
            clear XO
            clear XV HNV
            generalize q12.setRow BV #[.slice A3 999 c3] = q13 at *
            refine flow_done (by kernel_rfl) ?_
            exact HEND.out _ _ _ _ _ _ _ _ _ _ _ _ _ _ _ _ _ _ _ _ _ _ _ _ _ _ _ _ _ _ _ _ _ _ _ _ _ _ _ _ _ _ _ _ _ _ _ _ _ _ _ _ _ _ _ _ _ _ _ _ _ _ _ _ _ _ _ _ _ _ _ _ _ _ _ _ _ _ _ _ _ _ _ _ _ _ _ _ _ _ _ _ _ _ _ _ _ _ _ _ _ _ _ _ _ _ _ _ _ _ _ _ _ _ _ _ _ _ _ BV A3 c3 HS.out XW.out XL.out
        · go_wp2_with fail
          refine pieceEnd_normal ⟨(one_new y0 _).mono (by have h1 := HN0.out; have h2 := HS.out.size; omega), ?_⟩
          obtain ⟨BV, hBV⟩ : ∃ B, B = y0.heap.size := ⟨_, rfl⟩
          have XV : Hid ((y0.alloc (.cells #[.slice none 0 0] 24)).heap[BV]? = some (.cells #[.slice none 0 0] 24 (0, 0))) := Lib.hid (by rw [hBV]; exact heap_alloc_new _ _)
          have HNV : Hid (y0.heap.size ≤ BV) := Lib.hid (by rw [hBV]; exact HS.out.size)
          replace HS : Hid (Below y0.heap.size y0 (y0.alloc (.cells #[.slice none 0 0] 24))) := Lib.hid (HS.out.trans ((one_new y0 _).mono HS.out.size))
          try rw [← hBV]
          clear hBV
          generalize y0.alloc (.cells #[.slice none 0 0] 24) = q14 at *
          refine flow_one (F := Below n0) (fun _ _ _ h k => Below.trans h k) (fun _ => Below.refl _ _) 3 (by kernel_rfl) (by decide) ?_
          simp only [pick, List.getD_cons_zero, List.getD_cons_succ]
          go_wp2_with (at_builtin; go_must (refine wpList_appK q14 rfl (.const (.slice none 0 0)) (.tmp 63) 22 22 30 rfl q14.heap.size Tryz.underlying22 stm_info2 rfl _ 0 [] (World.ownsRow_nil _ _ _ _) rfl (.slice (some ⟨g, 0, none⟩) 777 cap) 777 (stmsC la) ((HTK.out _ (HR0.out.later HS.out)).src Tryz.underlying22 (stmsC_one _)) rfl (by unfold maxLen; omega) (by omega) (Nat.le_refl _) ?_); intro v2 q15 ho hb hk; obtain ⟨A2, c2, hv2, hr2⟩ := Row.of_own ho; subst hv2; have HOx := Lib.hid ho; have HBx := Lib.hid hb; clear ho hb hk hr2)
          refine pieceEnd_normal ⟨HBx.out.mono (by have h1 := HN0.out; have h2 := HS.out.size; omega), ?_⟩
          obtain ⟨B1, hB1⟩ : ∃ B1, B1 = q14.heap.size := ⟨_, rfl⟩
          have XA : Hid (q15.ownsRow B1 30 13 (.slice A2 777 c2) 777 (stmsC la)) := Lib.hid (by rw [hB1]; have h := HOx.out; rw [Nat.zero_add, List.nil_append] at h; exact h)
          have HBA : Hid (y0.heap.size ≤ B1) := Lib.hid (by rw [hB1]; exact HS.out.size)
          have HBL : Hid (B1 ≤ q15.heap.size) := Lib.hid (by rw [hB1]; exact HBx.out.size)
          have HNE : Hid (∀ k, Value.ownBlock (.slice A2 777 c2) = some k → k ≠ BV) := Lib.hid fun k e => by have h1 := (World.ownsRow.lt XA.out k e).1; have h2 := (Array.getElem?_eq_some_iff.1 XV.out).1; omega
          replace XV := Lib.hid ((HBx.out.block _ (Array.getElem?_eq_some_iff.1 XV.out).1).trans XV.out)
          replace HS := Lib.hid (HS.out.trans (HBx.out.mono HS.out.size))
          clear HOx HBx hB1
          refine flow_one (F := Below n0) (fun _ _ _ h k => Below.trans h k) (fun _ => Below.refl _ _) 8 (by kernel_rfl) (by decide) ?_
          simp only [pick, List.getD_cons_zero, List.getD_cons_succ]
          go_wp2_with (at_builtin; go_must (refine wpList_appK q15 rfl (.tmp 64) (.tmp 68) 22 22 30 rfl B1 Tryz.underlying22 stm_info2 rfl _ 777 (stmsC la) XA.out rfl (.slice (dropA (some ⟨g, 0, none⟩) cap 778 13) (1000 - 778) (cap - 778)) 222 (stmsC lb) ((HDR.out _ (HR0.out.later HS.out)).src Tryz.underlying22 (stmsC_one _)) rfl (by unfold maxLen; omega) (by omega) HBL.out ?_); intro v3 q16 ho hb hk; obtain ⟨A3, c3, hv3, hr3⟩ := Row.of_own ho; subst hv3; have HOx := Lib.hid ho; have HBx := Lib.hid hb; have HKx := Lib.hid hk; clear ho hb hk hr3)
          refine pieceEnd_normal ⟨HBx.out.mono (by have h1 := HN0.out; have h2 := HBA.out; omega), ?_⟩
          have XO : Hid (q16.ownsRow B1 30 13 (.slice A3 999 c3) 999 (stmsC ll)) := Lib.hid (by have h := HOx.out; rw [HLS.out] at h; exact h)
          replace XV := Lib.hid ((HKx.out _ (Array.getElem?_eq_some_iff.1 XV.out).1 (fun e => HNE.out _ e rfl)).trans XV.out)
          replace HS := Lib.hid (HS.out.trans (HBx.out.mono HBA.out))
          clear HOx HBx HKx XA HBA HBL
          clear HNE
          refine flow_val (F := Below n0) (fun _ => Below.refl _ _) (by kernel_rfl) 9 (by kernel_rfl) ?_
          simp only [pick, List.getD_cons_zero, List.getD_cons_succ]
          repeat (go_big_quiet_step (fail))
          refine wpQuiet_nil ?_
          refine flow_one (F := Below n0) (fun _ _ _ h k => Below.trans h k) (fun _ => Below.refl _ _) 11 (by kernel_rfl) (by decide) ?_
          simp only [pick, List.getD_cons_zero, List.getD_cons_succ]
          go_wp2_with (refine wpList_store_row rfl 24 (.tmp 15) (.tmp 70) rfl BV #[.slice A3 999 c3] rfl rfl 24 _ XV.out (by kernel_rfl) rfl (by simp [Value.oneCell']) ?_)
          refine pieceEnd_normal ⟨below_setRow (Below.refl _ _) (by have h1 := HN0.out; have h2 := HNV.out; omega) _, ?_⟩
          replace HS : Hid (Below y0.heap.size y0 (q16.setRow BV #[.slice A3 999 c3])) := Lib.hid (below_setRow HS.out HNV.out _)
          have XW : Hid ((q16.setRow BV #[.slice A3 999 c3]).heap[BV]? = some (.cells #[.slice A3 999 c3] 24 (0, 0))) := Lib.hid (setRow_heap _ _ _ _ _ _ XV.out)
          have XL : Hid (SRow (q16.setRow BV #[.slice A3 999 c3]) A3 999 c3 ll) := Lib.hid (own_row_set XO.out XV.out (by decide))
          clear XO
          clear XV HNV
          generalize q16.setRow BV #[.slice A3 999 c3] = q17 at *
          refine flow_done (by kernel_rfl) ?_
          exact HEND.out _ _ _ _ _ _ _ _ _ _ _ _ _ _ _ _ _ _ _ _ _ _ _ _ _ _ _ _ _ _ _ _ _ _ _ _ _ _ _ _ _ _ _ _ _ _ _ _ _ _ _ _ _ _ _ _ _ _ _ _ _ _ _ _ _ _ _ _ _ _ _ _ _ _ _ _ _ _ _ _ _ _ _ _ _ _ _ _ _ _ _ _ _ _ _ _ _ _ _ _ _ _ _ _ _ _ _ _ _ _ _ _ _ _ _ _ _ _ _ BV A3 c3 HS.out XW.out XL.out
        )
      clear HK15 HA2 HM1 HM2 HAW
      have hc6 : ∀ z, (fut (Below n0) y0 z).cell? ⟨B6, 0, none⟩ = some (.slice (some ⟨g, 0, none⟩) 1000 cap) := fun z => by
        have h3 := cell_of_row _ _ 0 _ _ _ (((fut_ok (F := Below n0) (fun _ => Below.refl _ _) y0 z).block _ (by have h1 := HN0.out; have h2 := (Array.getElem?_eq_some_iff.1 X60.out).1; omega)).trans X60.out)
        simpa using h3
      obtain ⟨bb, oo, hA, hf0, hf1, hf2, hf3, hf4, hf5, hf6, hf7, hf8, hf9, hf10, hf11, hf12⟩ := SRow.futs (F := Below n0) (fun _ => Below.refl _ _) (fun w' h => h.mono (Nat.le_of_eq HN0.out.symm)) HR0.out 777 (by omega)
      injection hA with hA
      injection hA with e1 e2
      subst e1 e2
      have e777 : F.getD 777 noStm = x := HX7.out
      simp only [e777, Nat.zero_add, Nat.reduceMul, Nat.reduceAdd] at hf0 hf1 hf2 hf3 hf4 hf5 hf6 hf7 hf8 hf9 hf10 hf11 hf12
      clear e777
      refine flow_reads (F := Below n0) (fun _ => Below.refl _ _) (by kernel_rfl) [0, 1, 2, 3, 4] (fuel := 9) (by kernel_rfl) ?_
      simp only [List.map_cons, List.map_nil, pick, List.getD_cons_zero, List.getD_cons_succ]
      repeat (go_big_quiet_step (fail))
      refine wpQuiet_nil ?_
      clear hc6 hf0 hf1 hf2 hf3 hf4 hf5 hf6 hf7 hf8 hf9 hf10 hf11 hf12
      refine flow_two (F := Below n0) (fun _ _ _ h k => Below.trans h k) (fun _ => Below.refl _ _) 5 10 (by kernel_rfl) (by decide) (by decide) ?_ ?_ <;> simp only [pick, List.getD_cons_zero, List.getD_cons_succ]
      · go_wp2_with fail
        refine (HA1.out y0 (HB0.out.trans (HS.out.mono HB0.out.size)) (HR0.out.later HS.out)).mono ?_
        rintro e q1 ⟨rfl, hb⟩
        have hf : Below n0 _ _ := hb.mono (by have h1 := HN0.out; have h2 := HS.out.size; omega)
        replace HS := Lib.hid (HS.out.trans (hb.mono HS.out.size))
        clear hb
        go_wp2_with fail
        refine pieceEnd_normal ⟨hf, ?_⟩
        clear hf
        refine flow_reads (F := Below n0) (fun _ => Below.refl _ _) (by kernel_rfl) [6, 7, 8, 9] (fuel := 4) (by kernel_rfl) ?_
        simp only [List.map_cons, List.map_nil, pick, List.getD_cons_zero, List.getD_cons_succ]
        repeat (go_big_quiet_step (fail))
        refine wpQuiet_nil ?_
        refine flow_one (F := Below n0) (fun _ _ _ h k => Below.trans h k) (fun _ => Below.refl _ _) 10 (by kernel_rfl) (by decide) ?_
        simp only [pick, List.getD_cons_zero, List.getD_cons_succ]
        go_wp2_with fail
        refine pieceEnd_normal ⟨(one_new q1 _).mono (by have h1 := HN0.out; have h2 := HS.out.size; omega), ?_⟩
        obtain ⟨BV, hBV⟩ : ∃ B, B = q1.heap.size := ⟨_, rfl⟩
        have XV : Hid ((q1.alloc (.cells #[.slice none 0 0] 24)).heap[BV]? = some (.cells #[.slice none 0 0] 24 (0, 0))) := Lib.hid (by rw [hBV]; exact heap_alloc_new _ _)
        have HNV : Hid (y0.heap.size ≤ BV) := Lib.hid (by rw [hBV]; exact HS.out.size)
        replace HS : Hid (Below y0.heap.size y0 (q1.alloc (.cells #[.slice none 0 0] 24))) := Lib.hid (HS.out.trans ((one_new q1 _).mono HS.out.size))
        try rw [← hBV]
        clear hBV
        generalize q1.alloc (.cells #[.slice none 0 0] 24) = q2 at *
        refine flow_one (F := Below n0) (fun _ _ _ h k => Below.trans h k) (fun _ => Below.refl _ _) 11 (by kernel_rfl) (by decide) ?_
        simp only [pick, List.getD_cons_zero, List.getD_cons_succ]
        go_wp2_with (refine wpList_store_row rfl 24 (.tmp 9) (.tmp 51) rfl BV #[.slice (some ⟨g, 0, none⟩) 1000 cap] rfl rfl 24 _ XV.out (by kernel_rfl) rfl (by simp [Value.oneCell']) ?_)
        refine pieceEnd_normal ⟨below_setRow (Below.refl _ _) (by have h1 := HN0.out; have h2 := HNV.out; omega) _, ?_⟩
        replace HS : Hid (Below y0.heap.size y0 (q2.setRow BV #[.slice (some ⟨g, 0, none⟩) 1000 cap])) := Lib.hid (below_setRow HS.out HNV.out _)
        have XW : Hid ((q2.setRow BV #[.slice (some ⟨g, 0, none⟩) 1000 cap]).heap[BV]? = some (.cells #[.slice (some ⟨g, 0, none⟩) 1000 cap] 24 (0, 0))) := Lib.hid (setRow_heap _ _ _ _ _ _ XV.out)
        clear XV HNV
        generalize q2.setRow BV #[.slice (some ⟨g, 0, none⟩) 1000 cap] = q3 at *
        clear XW
        refine flow_reads (F := Below n0) (fun _ => Below.refl _ _) (by kernel_rfl) [12, 13] (fuel := 0) (by kernel_rfl) ?_
        simp only [List.map_cons, List.map_nil, pick, List.getD_cons_zero, List.getD_cons_succ]
        repeat (go_big_quiet_step (fail))
        refine wpQuiet_nil ?_
        refine flow_done (by kernel_rfl) ?_
        exact HEND.out _ _ _ _ _ _ _ _ _ _ _ _ _ _ _ _ _ _ _ _ _ _ _ _ _ _ _ _ _ _ _ _ _ _ _ _ _ _ _ _ _ _ _ _ _ _ _ _ _ _ _ _ _ _ _ _ _ _ _ _ _ _ _ _ _ _ _ _ _ _ _ _ _ _ _ _ _ _ _ _ _ _ _ _ _ _ _ _ _ _ _ _ _ _ _ _ _ _ _ _ _ _ _ _ _ _ _ _ _ _ _ _ _ _ _ _ _ _ _ _ _ _ HS.out
      · go_wp2_with fail
        refine pieceEnd_normal ⟨(one_new y0 _).mono (by have h1 := HN0.out; have h2 := HS.out.size; omega), ?_⟩
        obtain ⟨BV, hBV⟩ : ∃ B, B = y0.heap.size := ⟨_, rfl⟩
        have XV : Hid ((y0.alloc (.cells #[.slice none 0 0] 24)).heap[BV]? = some (.cells #[.slice none 0 0] 24 (0, 0))) := Lib.hid (by rw [hBV]; exact heap_alloc_new _ _)
        have HNV : Hid (y0.heap.size ≤ BV) := Lib.hid (by rw [hBV]; exact HS.out.size)
        replace HS : Hid (Below y0.heap.size y0 (y0.alloc (.cells #[.slice none 0 0] 24))) := Lib.hid (HS.out.trans ((one_new y0 _).mono HS.out.size))
        try rw [← hBV]
        clear hBV
        generalize y0.alloc (.cells #[.slice none 0 0] 24) = q4 at *
        refine flow_one (F := Below n0) (fun _ _ _ h k => Below.trans h k) (fun _ => Below.refl _ _) 5 (by kernel_rfl) (by decide) ?_
        simp only [pick, List.getD_cons_zero, List.getD_cons_succ]
        go_wp2_with fail
        refine (HA1.out q4 (HB0.out.trans (HS.out.mono HB0.out.size)) (HR0.out.later HS.out)).mono ?_
        rintro e q5 ⟨rfl, hb⟩
        have hf : Below n0 _ _ := hb.mono (by have h1 := HN0.out; have h2 := HS.out.size; omega)
        replace HS := Lib.hid (HS.out.trans (hb.mono HS.out.size))
        replace XV := Lib.hid ((hb.block _ (Array.getElem?_eq_some_iff.1 XV.out).1).trans XV.out)
        clear hb
        go_wp2_with fail
        refine pieceEnd_normal ⟨hf, ?_⟩
        clear hf
        refine flow_reads (F := Below n0) (fun _ => Below.refl _ _) (by kernel_rfl) [6, 7, 8, 9] (fuel := 3) (by kernel_rfl) ?_
        simp only [List.map_cons, List.map_nil, pick, List.getD_cons_zero, List.getD_cons_succ]
        repeat (go_big_quiet_step (fail))
        refine wpQuiet_nil ?_
        refine flow_one (F := Below n0) (fun _ _ _ h k => Below.trans h k) (fun _ => Below.refl _ _) 11 (by kernel_rfl) (by decide) ?_
        simp only [pick, List.getD_cons_zero, List.getD_cons_succ]
        go_wp2_with (refine wpList_store_row rfl 24 (.tmp 9) (.tmp 51) rfl BV #[.slice (some ⟨g, 0, none⟩) 1000 cap] rfl rfl 24 _ XV.out (by kernel_rfl) rfl (by simp [Value.oneCell']) ?_)
        refine pieceEnd_normal ⟨below_setRow (Below.refl _ _) (by have h1 := HN0.out; have h2 := HNV.out; omega) _, ?_⟩
        replace HS : Hid (Below y0.heap.size y0 (q5.setRow BV #[.slice (some ⟨g, 0, none⟩) 1000 cap])) := Lib.hid (below_setRow HS.out HNV.out _)
        have XW : Hid ((q5.setRow BV #[.slice (some ⟨g, 0, none⟩) 1000 cap]).heap[BV]? = some (.cells #[.slice (some ⟨g, 0, none⟩) 1000 cap] 24 (0, 0))) := Lib.hid (setRow_heap _ _ _ _ _ _ XV.out)
        clear XV HNV
        generalize q5.setRow BV #[.slice (some ⟨g, 0, none⟩) 1000 cap] = q6 at *
        clear XW
        refine flow_reads (F := Below n0) (fun _ => Below.refl _ _) (by kernel_rfl) [12, 13] (fuel := 0) (by kernel_rfl) ?_
        simp only [List.map_cons, List.map_nil, pick, List.getD_cons_zero, List.getD_cons_succ]
        repeat (go_big_quiet_step (fail))
        refine wpQuiet_nil ?_
        refine flow_done (by kernel_rfl) ?_
        exact HEND.out _ _ _ _ _ _ _ _ _ _ _ _ _ _ _ _ _ _ _ _ _ _ _ _ _ _ _ _ _ _ _ _ _ _ _ _ _ _ _ _ _ _ _ _ _ _ _ _ _ _ _ _ _ _ _ _ _ _ _ _ _ _ _ _ _ _ _ _ _ _ _ _ _ _ _ _ _ _ _ _ _ _ _ _ _ _ _ _ _ _ _ _ _ _ _ _ _ _ _ _ _ _ _ _ _ _ _ _ _ _ _ _ _ _ _ _ _ _ _ _ _ _ HS.out
end Go.Proofs.YtnjilfdmplbalaaGreatDoor
