import Derived.Test.YtjmapbaofpilaaaGreatPackAT
import Derived.Test.YtjmapbaofpilaaaGreatPackAN
import Derived.Test.YtjmapbaofpilaaaGreatPackAC
import Derived.Lib.Bytealg
import Derived.Lib.Small
/- The walk of the reference's Between. -/
namespace Go.Proofs.YtjmapbaofpilaaaGreat
open Go.RowKit
def findV : List Vou → Int → Int → Vou × Bool
  | [], _, _ => (noVou, false)
  | a :: m, fr, tu => if a.fr = fr ∧ a.tu = tu then (a, true) else findV m fr tu
/-- The active vouch between two. -/
def betweenS (L : List Stm) (fr tu tm : Int) : Vou × Bool := findV (activeS L tm) fr tu
theorem results_btw {tmps : Array Value} {w : World} {s : Nat} {cs : Array Value} {v : Value} (h2 : tmps.getD 8 undef = .pointer (some ⟨s, 0, none⟩)) (h3 : tmps.getD 9 undef = v)
    (hs : w.heap[s]? = some (.cells cs 40 (0, 0))) (hz : cs.size = 7) :
    (results Tryz.f19 tmps).run Tryz.prog w = .ok (.tuple #[.agg cs, v]) w := by
  have hr : Tryz.f19.results = #[.cell 8 40, .tmp 9] := rfl
  have h2' : tmps[8]?.getD undef = .pointer (some ⟨s, 0, none⟩) := by simpa using h2
  have h3' : tmps[9]?.getD undef = v := by simpa using h3
  have hl := run_loadVar_row (P := Tryz.prog) w s 40 40 cs (0, 0) _ hs Tryz.underlying40 rfl (by rw [hz]; kernel_rfl)
  unfold results
  rw [hr]
  simp [h2', h3', asAddr, hl]
theorem activeS_len (L : List Stm) (tm : Int) : (activeS L tm).length ≤ L.length := Nat.le_trans (activeUp_len _ _ _ _) (vouchesS_len L)
set_option maxRecDepth 100000 in
set_option maxHeartbeats 4000000 in
theorem vbetween_any (A : Option Addr) (n c : Nat) (l : List Pl) (fr tu tm : Int) (w : World) (hl : LRow w A n c l) (hn : n ≤ 100000) : Calls Tryz.prog 19 #[.slice A n c, .int .i64 fr, .int .i64 tu, .int .i64 tm] w fun e w' => e = .returned (.tuple #[.agg (betweenS (l.map (·.s)) fr tu tm).1.arr, .bool (betweenS (l.map (·.s)) fr tu tm).2]) ∧ Below w.heap.size w w' := by
  have HNW := Lib.hid (one_new w (.cells #[.int .i64 0, .int .i64 0, .int .i64 0, .int .i64 0, .int .i64 0, .int .i64 0, .int .i64 0] 40))
  have HG : Hid ((w.alloc (.cells #[.int .i64 0, .int .i64 0, .int .i64 0, .int .i64 0, .int .i64 0, .int .i64 0, .int .i64 0] 40)).heap[w.heap.size]? = some (.cells #[.int .i64 0, .int .i64 0, .int .i64 0, .int .i64 0, .int .i64 0, .int .i64 0, .int .i64 0] 40 (0, 0))) := Lib.hid (heap_alloc_new _ _)
  have HAC := Lib.hid (active_any A n c l tm (w.alloc (.cells #[.int .i64 0, .int .i64 0, .int .i64 0, .int .i64 0, .int .i64 0, .int .i64 0, .int .i64 0] 40)) (hl.later HNW.out) hn)
  have HAL : Hid ((activeS (l.map (·.s)) tm).length ≤ n) := Lib.hid (by have h := activeS_len (l.map (·.s)) tm; rw [List.length_map, hl.len] at h; exact h)
  unfold betweenS
  generalize activeS (l.map (·.s)) tm = act at *
  obtain ⟨RS, hrs⟩ : ∃ RS, findV act fr tu = RS := ⟨_, rfl⟩
  rw [hrs]
  have HRS := Lib.hid hrs
  clear hl hrs
  go_enter Tryz.func19, Tryz.ntmps19
  go_wp2_with fail
  generalize w.alloc (.cells #[.int .i64 0, .int .i64 0, .int .i64 0, .int .i64 0, .int .i64 0, .int .i64 0, .int .i64 0] 40) = y0 at *
  obtain ⟨g, hgg⟩ : ∃ g, w.heap.size = g := ⟨_, rfl⟩
  rw [hgg] at HG ⊢
  have HGG := Lib.hid hgg
  clear hgg
  have HGL : Hid (g < y0.heap.size) := Lib.hid (Array.getElem?_eq_some_iff.1 HG.out).1
  refine HAC.out.mono ?_
  rintro e w1 ⟨A1, n1, c1, rfl, hv1, hb⟩
  have HV := Lib.hid hv1; have HB := Lib.hid hb
  have hln : act.length = n1 := hv1.len
  have hn1 : n1 ≤ 100000 := by have := HAL.out; omega
  have HLN := Lib.hid hln
  clear hv1 hb hln HAC HAL
  go_wp2_with fail
  go_loopw [11] (fun i wr => ∃ j : Nat, j ≤ n1 ∧ i = .int .i64 j ∧ Hid (findV (act.drop j) fr tu = RS ∧ Below w1.heap.size w1 wr)) (fun i _ => n1 - (intOf i).toNat)
  case atStart => exact ⟨0, Nat.zero_le _, rfl, Lib.hid ⟨HRS.out, Below.refl _ _⟩⟩
  case round =>
    obtain ⟨j, hj, rfl, HQ⟩ := hrel
    have HWB : Hid (Below y0.heap.size y0 wr) := Lib.hid (HB.out.trans (HQ.out.2.mono HB.out.size))
    have HGR : Hid (wr.heap[g]? = some (.cells #[.int .i64 0, .int .i64 0, .int .i64 0, .int .i64 0, .int .i64 0, .int .i64 0, .int .i64 0] 40 (0, 0))) := Lib.hid ((HWB.out.block _ HGL.out).trans HG.out)
    have HWW : Hid (Below g w wr) := Lib.hid (by rw [← HGG.out]; exact HNW.out.trans (HWB.out.mono HNW.out.size))
    by_cases hlt : j < n1
    · have hlt2 : (j : Int) < (n1 : Int) := by omega
      obtain ⟨b, off, hA, hc⟩ := GRow.cells Vou.len (by decide) (GRow.later HV.out HQ.out.2) noVou j hlt
      subst hA
      have HD : Hid (findV (act.drop j) fr tu = if (act.getD j noVou).fr = fr ∧ (act.getD j noVou).tu = tu then (act.getD j noVou, true) else findV (act.drop (j + 1)) fr tu) := Lib.hid (by
        rw [List.drop_eq_getElem_cons (by rw [HLN.out]; exact hlt), findV, List.getD_eq_getElem?_getD, List.getElem?_eq_getElem (by rw [HLN.out]; exact hlt)]; rfl)
      obtain ⟨p, hp⟩ : ∃ p, act.getD j noVou = p := ⟨_, rfl⟩
      rw [hp] at hc HD
      have HC : Hid (∀ k, k < p.arr.size → wr.cell? ⟨b, off + j * 7 + k, none⟩ = p.arr[k]?) := Lib.hid fun k hk => (hc k hk).trans (by rw [← Vou.list, Array.getElem?_toList])
      have hp0 : wr.cell? ⟨b, off + j * 7, none⟩ = some (.int .i64 p.fr) := hc 0 (by decide)
      have hp1 : wr.cell? ⟨b, off + j * 7 + 1, none⟩ = some (.int .i64 p.tu) := hc 1 (by decide)
      clear hc hp
      by_cases k0 : p.fr = fr
      · have b0 : (p.fr == fr) = true := by rw [k0]; simp
        have K0 := Lib.hid k0; clear k0
        by_cases k1 : p.tu = tu
        · have b1 : (p.tu == tu) = true := by rw [k1]; simp
          have HR : Hid (RS = (p, true)) := Lib.hid (by rw [← HQ.out.1, HD.out, if_pos ⟨K0.out, k1⟩])
          clear k1
          go_wp2_with (first | (refine wpList_load_cells rfl 40 (.tmp 39) rfl b (off + j * 7) rfl p.arr _ Tryz.underlying40 rfl p.info HC.out ?_) | (refine wpList_store_row rfl 40 (.tmp 8) (.tmp 40) rfl g p.arr rfl rfl 40 _ HGR.out p.info rfl p.one ?_))
          refine bodyPost_ret (results_btw rfl rfl (setRow_heap _ _ _ p.arr _ _ HGR.out) rfl) rfl ?_
          exact ⟨by rw [HR.out]; rfl, by rw [HGG.out]; exact below_setRow HWW.out (Nat.le_refl _) _⟩
        · have b1 : (p.tu == tu) = false := by rw [beq_eq_false_iff_ne]; exact k1
          have HN : Hid (findV (act.drop (j + 1)) fr tu = RS) := Lib.hid (by rw [← HQ.out.1, HD.out, if_neg (fun h => k1 h.2)])
          clear k1
          go_wp2_with fail
          exact ⟨⟨j + 1, by omega, by go_num, Lib.hid ⟨HN.out, HQ.out.2⟩⟩, by simp [intOf]; omega⟩
      · have b0 : (p.fr == fr) = false := by rw [beq_eq_false_iff_ne]; exact k0
        have HN : Hid (findV (act.drop (j + 1)) fr tu = RS) := Lib.hid (by rw [← HQ.out.1, HD.out, if_neg (fun h => k0 h.1)])
        clear k0
        go_wp2_with fail
        exact ⟨⟨j + 1, by omega, by go_num, Lib.hid ⟨HN.out, HQ.out.2⟩⟩, by simp [intOf]; omega⟩
    · have hlt2 : ¬ (j : Int) < (n1 : Int) := by omega
      have HR : Hid (RS = (noVou, false)) := Lib.hid (by rw [← HQ.out.1, List.drop_eq_nil_of_le (by rw [HLN.out]; omega)]; rfl)
      go_wp2_with (refine wpList_store_row rfl 40 (.tmp 8) (.tmp 41) rfl g noVou.arr rfl rfl 40 _ HGR.out noVou.info rfl noVou.one ?_)
      refine bodyPost_ret (results_btw rfl rfl (setRow_heap _ _ _ noVou.arr _ _ HGR.out) rfl) rfl ?_
      exact ⟨by rw [HR.out]; rfl, by rw [HGG.out]; exact below_setRow HWW.out (Nat.le_refl _) _⟩
end Go.Proofs.YtjmapbaofpilaaaGreat
/- The law of layer 10 on one list, over any program that gives what layer 10 asks. -/
namespace Go.Proofs.YtjmapbaofpilaaaGreat
open Go.RowKit
/-- A list as layer 10 is specified for: what counts of some authors, by author and number. -/
structure Ord10 (S : List Stm) : Prop where
  ok : ∀ s ∈ S, checkV s = 0
  link : Linked none S
  ord : S.Pairwise fun a b => a.author < b.author ∨ (a.author = b.author ∧ a.number < b.number)
def SaysB (w : World) (r : Vou × Bool) (e : Ending) (w' : World) : Prop := e = .returned (.tuple #[.agg r.1.arr, .bool r.2]) ∧ Below w.heap.size w w'
/-- What the program's functions of layer 10 give. -/
structure VouchC : Prop where
  vof : ∀ (A : Option Addr) (n c : Nat) (l : List Pl) (w : World), LRow w A n c l → n ≤ 100000 → Ord10 (l.map (·.s)) → Calls Tryz.prog 12 #[.slice A n c] w (GivesV w (vouchesS (l.map (·.s))))
  gone : ∀ (A : Option Addr) (n c : Nat) (l : List Pl) (tm : Int) (w : World), LRow w A n c l → n ≤ 100000 → Ord10 (l.map (·.s)) → Calls Tryz.prog 23 #[.slice A n c, .int .i64 tm] w (GivesI w (goneS (l.map (·.s)) tm))
  active : ∀ (A : Option Addr) (n c : Nat) (l : List Pl) (tm : Int) (w : World), LRow w A n c l → n ≤ 100000 → Ord10 (l.map (·.s)) → Calls Tryz.prog 14 #[.slice A n c, .int .i64 tm] w (GivesV w (activeS (l.map (·.s)) tm))
  between : ∀ (A : Option Addr) (n c : Nat) (l : List Pl) (fr tu tm : Int) (w : World), LRow w A n c l → n ≤ 100000 → Ord10 (l.map (·.s)) → Calls Tryz.prog 13 #[.slice A n c, .int .i64 fr, .int .i64 tu, .int .i64 tm] w (SaysB w (betweenS (l.map (·.s)) fr tu tm))
theorem sameI_self (A : Option Addr) (n c : Nat) (B : Option Addr) (m k : Nat) (l : List Int) (w : World) (h1 : IRow w A n c l) (h2 : IRow w B m k l) (hn : n ≤ 100000) : Calls Tryz.prog 22 #[.slice A n c, .slice B m k] w (SaysL (.bool true) w) := by
  refine (sameInts_any A n c l B m k l w h1 h2 (by omega)).mono ?_
  intro e w' h
  rwa [sameIB_self] at h
set_option maxRecDepth 100000 in
set_option maxHeartbeats 4000000 in
theorem agree10_any (H : VouchC) (A : Option Addr) (n c : Nat) (l : List Pl) (fr tu tm : Int) (w : World) (hl : LRow w A n c l) (hn : n ≤ 100000) (ho : Ord10 (l.map (·.s))) : Calls Tryz.prog 9 #[.slice A n c, .int .i64 fr, .int .i64 tu, .int .i64 tm] w (SaysL (.bool true) w) := by
  have HL := Lib.hid hl; have HO := Lib.hid ho
  have HVL : Hid ((vouchesS (l.map (·.s))).length ≤ 100000) := Lib.hid (by have h := vouchesS_len (l.map (·.s)); rw [List.length_map, hl.len] at h; omega)
  have HAL : Hid ((activeS (l.map (·.s)) tm).length ≤ 100000) := Lib.hid (by have h := activeS_len (l.map (·.s)) tm; rw [List.length_map, hl.len] at h; omega)
  have HGL : Hid ((goneS (l.map (·.s)) tm).length ≤ 64) := Lib.hid (goneUp_len _ _ 64)
  clear hl ho
  go_enter Tryz.func9, Tryz.ntmps9
  go_wp2_with fail
  refine (H.between A n c l fr tu tm w HL.out hn HO.out).mono ?_
  rintro e w1 ⟨rfl, hb⟩
  have HB1 := Lib.hid hb; clear hb
  obtain ⟨p, hp⟩ : ∃ p, betweenS (l.map (·.s)) fr tu tm = p := ⟨_, rfl⟩
  have HP := Lib.hid hp
  rw [hp]
  clear hp
  obtain ⟨q, bb⟩ := p
  go_upto_region 2 with (refine wpList_store_new rfl 40 (.tmp 9) (.tmp 19) rfl 40 _ q.arr rfl rfl q.info rfl q.one ?_)
  have HN2 := Lib.hid (one_new w1 (.cells q.arr 40))
  have HX : Hid ((w1.alloc (.cells q.arr 40)).heap[w1.heap.size]? = some (.cells q.arr 40 (0, 0))) := Lib.hid (heap_alloc_new _ _)
  have HB2 := Lib.hid (HB1.out.trans (HN2.out.mono HB1.out.size))
  clear HN2 HB1
  generalize w1.alloc (.cells q.arr 40) = x2 at *
  generalize w1.heap.size = g at *
  go_wp2_with fail
  refine (vbetween_any A n c l fr tu tm x2 (HL.out.later HB2.out) hn).mono ?_
  rw [HP.out]
  rintro e w3 ⟨rfl, hb⟩
  have HX3 : Hid (w3.heap[g]? = some (.cells q.arr 40 (0, 0))) := Lib.hid ((hb.block _ (Array.getElem?_eq_some_iff.1 HX.out).1).trans HX.out)
  have HB3 := Lib.hid (HB2.out.trans (hb.mono HB2.out.size))
  clear hb HB2 HX HP
  go_upto_region 3 with (refine wpList_store_new rfl 40 (.tmp 11) (.tmp 27) rfl 40 _ q.arr rfl rfl q.info rfl q.one ?_)
  have HN4 := Lib.hid (one_new w3 (.cells q.arr 40))
  have HY : Hid ((w3.alloc (.cells q.arr 40)).heap[w3.heap.size]? = some (.cells q.arr 40 (0, 0))) := Lib.hid (heap_alloc_new _ _)
  have HX : Hid ((w3.alloc (.cells q.arr 40)).heap[g]? = some (.cells q.arr 40 (0, 0))) := Lib.hid ((HN4.out.block _ (Array.getElem?_eq_some_iff.1 HX3.out).1).trans HX3.out)
  have HB := Lib.hid (HB3.out.trans (HN4.out.mono HB3.out.size))
  clear HN4 HB3 HX3
  generalize w3.alloc (.cells q.arr 40) = z0 at *
  generalize w3.heap.size = g2 at *
  go_wp2_with fail
  refine (H.vof A n c l z0 (HL.out.later HB.out) hn HO.out).mono ?_
  rintro e z1 ⟨A5, n5, c5, rfl, hv5, hb⟩
  replace HX := Lib.hid ((hb.block _ (Array.getElem?_eq_some_iff.1 HX.out).1).trans HX.out); replace HY := Lib.hid ((hb.block _ (Array.getElem?_eq_some_iff.1 HY.out).1).trans HY.out)
  replace HB := Lib.hid (HB.out.trans (hb.mono HB.out.size))
  have HV5 := Lib.hid hv5; clear hv5
  clear hb
  go_wp2_with fail
  refine (vof_any A n c l z1 (HL.out.later HB.out) hn).mono ?_
  rintro e z2 ⟨A6, n6, c6, rfl, hv6, hb⟩
  replace HX := Lib.hid ((hb.block _ (Array.getElem?_eq_some_iff.1 HX.out).1).trans HX.out); replace HY := Lib.hid ((hb.block _ (Array.getElem?_eq_some_iff.1 HY.out).1).trans HY.out)
  replace HB := Lib.hid (HB.out.trans (hb.mono HB.out.size))
  have HSM := Lib.hid (vsame_any A5 n5 c5 A6 n6 c6 _ z2 (GRow.later HV5.out hb) hv6 (by rw [← HV5.out.len]; exact HVL.out)); clear hv6 HV5
  clear hb
  go_wp2_with fail
  refine (HSM.out).mono ?_
  rintro e z3 ⟨rfl, hb⟩
  replace HX := Lib.hid ((hb.block _ (Array.getElem?_eq_some_iff.1 HX.out).1).trans HX.out); replace HY := Lib.hid ((hb.block _ (Array.getElem?_eq_some_iff.1 HY.out).1).trans HY.out)
  replace HB := Lib.hid (HB.out.trans (hb.mono HB.out.size))
  clear HSM
  clear hb
  go_wp2_with fail
  refine (H.gone A n c l tm z3 (HL.out.later HB.out) hn HO.out).mono ?_
  rintro e z4 ⟨A5, n5, c5, rfl, hv5, hb⟩
  replace HX := Lib.hid ((hb.block _ (Array.getElem?_eq_some_iff.1 HX.out).1).trans HX.out); replace HY := Lib.hid ((hb.block _ (Array.getElem?_eq_some_iff.1 HY.out).1).trans HY.out)
  replace HB := Lib.hid (HB.out.trans (hb.mono HB.out.size))
  have HV5 := Lib.hid hv5; clear hv5
  clear hb
  go_wp2_with fail
  refine (gone_any A n c l tm z4 (HL.out.later HB.out) hn).mono ?_
  rintro e z5 ⟨A6, n6, c6, rfl, hv6, hb⟩
  replace HX := Lib.hid ((hb.block _ (Array.getElem?_eq_some_iff.1 HX.out).1).trans HX.out); replace HY := Lib.hid ((hb.block _ (Array.getElem?_eq_some_iff.1 HY.out).1).trans HY.out)
  replace HB := Lib.hid (HB.out.trans (hb.mono HB.out.size))
  have HSM := Lib.hid (sameI_self A5 n5 c5 A6 n6 c6 _ z5 (HV5.out.later hb) hv6 (by have h1 : (goneS (l.map (·.s)) tm).length = n5 := HV5.out.len; have h2 := HGL.out; omega)); clear hv6 HV5
  clear hb
  go_wp2_with fail
  refine (HSM.out).mono ?_
  rintro e z6 ⟨rfl, hb⟩
  replace HX := Lib.hid ((hb.block _ (Array.getElem?_eq_some_iff.1 HX.out).1).trans HX.out); replace HY := Lib.hid ((hb.block _ (Array.getElem?_eq_some_iff.1 HY.out).1).trans HY.out)
  replace HB := Lib.hid (HB.out.trans (hb.mono HB.out.size))
  clear HSM
  clear hb
  go_wp2_with fail
  refine (H.active A n c l tm z6 (HL.out.later HB.out) hn HO.out).mono ?_
  rintro e z7 ⟨A5, n5, c5, rfl, hv5, hb⟩
  replace HX := Lib.hid ((hb.block _ (Array.getElem?_eq_some_iff.1 HX.out).1).trans HX.out); replace HY := Lib.hid ((hb.block _ (Array.getElem?_eq_some_iff.1 HY.out).1).trans HY.out)
  replace HB := Lib.hid (HB.out.trans (hb.mono HB.out.size))
  have HV5 := Lib.hid hv5; clear hv5
  clear hb
  go_wp2_with fail
  refine (active_any A n c l tm z7 (HL.out.later HB.out) hn).mono ?_
  rintro e z8 ⟨A6, n6, c6, rfl, hv6, hb⟩
  replace HX := Lib.hid ((hb.block _ (Array.getElem?_eq_some_iff.1 HX.out).1).trans HX.out); replace HY := Lib.hid ((hb.block _ (Array.getElem?_eq_some_iff.1 HY.out).1).trans HY.out)
  replace HB := Lib.hid (HB.out.trans (hb.mono HB.out.size))
  have HSM := Lib.hid (vsame_any A5 n5 c5 A6 n6 c6 _ z8 (GRow.later HV5.out hb) hv6 (by rw [← HV5.out.len]; exact HAL.out)); clear hv6 HV5
  clear hb
  go_wp2_with fail
  refine (HSM.out).mono ?_
  rintro e z9 ⟨rfl, hb⟩
  replace HX := Lib.hid ((hb.block _ (Array.getElem?_eq_some_iff.1 HX.out).1).trans HX.out); replace HY := Lib.hid ((hb.block _ (Array.getElem?_eq_some_iff.1 HY.out).1).trans HY.out)
  replace HB := Lib.hid (HB.out.trans (hb.mono HB.out.size))
  clear HSM
  clear hb
  obtain ⟨x0, x1, x2, x3, x4, x5, x6⟩ := q
  have hc0 : z9.cell? ⟨g, 0, none⟩ = some (.int .i64 x0) := (cell_of_row _ _ 0 _ _ _ HX.out).trans rfl
  have hc1 : z9.cell? ⟨g, 1, none⟩ = some (.int .i64 x1) := (cell_of_row _ _ 1 _ _ _ HX.out).trans rfl
  have hc2 : z9.cell? ⟨g, 2, none⟩ = some (.int .i64 x2) := (cell_of_row _ _ 2 _ _ _ HX.out).trans rfl
  have hc3 : z9.cell? ⟨g, 3, none⟩ = some (.int .i64 x3) := (cell_of_row _ _ 3 _ _ _ HX.out).trans rfl
  have hc4 : z9.cell? ⟨g, 4, none⟩ = some (.int .i64 x4) := (cell_of_row _ _ 4 _ _ _ HX.out).trans rfl
  have hc5 : z9.cell? ⟨g, 5, none⟩ = some (.int .i64 x5) := (cell_of_row _ _ 5 _ _ _ HX.out).trans rfl
  have hc6 : z9.cell? ⟨g, 6, none⟩ = some (.int .i64 x6) := (cell_of_row _ _ 6 _ _ _ HX.out).trans rfl
  have hd0 : z9.cell? ⟨g2, 0, none⟩ = some (.int .i64 x0) := (cell_of_row _ _ 0 _ _ _ HY.out).trans rfl
  have hd1 : z9.cell? ⟨g2, 1, none⟩ = some (.int .i64 x1) := (cell_of_row _ _ 1 _ _ _ HY.out).trans rfl
  have hd2 : z9.cell? ⟨g2, 2, none⟩ = some (.int .i64 x2) := (cell_of_row _ _ 2 _ _ _ HY.out).trans rfl
  have hd3 : z9.cell? ⟨g2, 3, none⟩ = some (.int .i64 x3) := (cell_of_row _ _ 3 _ _ _ HY.out).trans rfl
  have hd4 : z9.cell? ⟨g2, 4, none⟩ = some (.int .i64 x4) := (cell_of_row _ _ 4 _ _ _ HY.out).trans rfl
  have hd5 : z9.cell? ⟨g2, 5, none⟩ = some (.int .i64 x5) := (cell_of_row _ _ 5 _ _ _ HY.out).trans rfl
  have hd6 : z9.cell? ⟨g2, 6, none⟩ = some (.int .i64 x6) := (cell_of_row _ _ 6 _ _ _ HY.out).trans rfl
  cases bb
  · go_wp2_with fail
    go_ret
    exact ⟨rfl, HB.out⟩
  · go_wp2_with fail
    go_ret
    exact ⟨rfl, HB.out⟩
end Go.Proofs.YtjmapbaofpilaaaGreat
/- What counts of a store: it is in the order that layer 10 is specified for; its lists are the call's own. -/
namespace Go.Proofs.YtjmapbaofpilaaaGreat
open Go.RowKit
set_option maxRecDepth 100000 in
set_option maxHeartbeats 4000000 in
theorem countedAll_hi (A : Option Addr) (n c : Nat) (l : List Pl) (w : World) (hl : LRow w A n c l) (hn : n ≤ 1000) (hs : ∀ p ∈ l, Small p.s) :
    Calls Tryz.prog 7 #[.agg #[.slice A n c]] w fun e w' => ∃ v l', e = .returned v ∧ l'.map (·.s) = countedAll (l.map (·.s)) ∧ LOwn w' w.heap.size v l' ∧ HiL w.heap.size l' ∧ Below w.heap.size w w' := by
  have HL := Lib.hid hl; have HLN := Lib.hid hl.len; have HS := Lib.hid hs
  clear hl hs
  go_enter Tryz.func7, Tryz.ntmps7
  go_wp2_with fail
  have HNW := Lib.hid (one_new w (.cells #[.slice A n c] 31))
  have HG : Hid ((w.alloc (.cells #[.slice A n c] 31)).heap[w.heap.size]? = some (.cells #[.slice A n c] 31 (0, 0))) := Lib.hid (heap_alloc_new _ _)
  generalize w.alloc (.cells #[.slice A n c] 31) = y0 at *
  have HGL : Hid (w.heap.size < y0.heap.size) := Lib.hid (Array.getElem?_eq_some_iff.1 HG.out).1
  replace HL := Lib.hid (HL.out.later HNW.out)
  go_loopw [3, 4] (fun v i wr => ∃ (j : Nat) (l' : List Pl), j ≤ 64 ∧ i = .int .i64 j ∧ Hid (LOwn wr y0.heap.size v l' ∧ l'.map (·.s) = countedUp (l.map (·.s)) j ∧ Below y0.heap.size y0 wr ∧ HiL y0.heap.size l')) (fun _ i _ => 64 - (intOf i).toNat)
  case atStart => exact ⟨0, [], Nat.zero_le _, rfl, Lib.hid ⟨LOwn.nil _ _, rfl, Below.refl _ _, HiL.nil _⟩⟩
  case round =>
    obtain ⟨j, l', hj, rfl, HQ⟩ := hrel
    obtain ⟨A3, c3, hv3, -⟩ := HQ.out.1.row
    subst hv3
    by_cases hlt : j < 64
    · have hlt2 : (j : Int) < 64 := by omega
      have HX0 : Hid (wr.heap[w.heap.size]? = some (.cells #[.slice A n c] 31 (0, 0))) := Lib.hid ((HQ.out.2.2.1.block _ HGL.out).trans HG.out)
      have HLJ := Lib.hid (HL.out.later HQ.out.2.2.1)
      have HLE : Hid (l'.length ≤ 64000) := Lib.hid (by
        have h1 := congrArg List.length HQ.out.2.1
        have h2 := countedUp_len (l.map (·.s)) j
        rw [List.length_map] at h1 h2
        rw [HLN.out] at h2
        have h3 : j * n ≤ 64 * 1000 := Nat.mul_le_mul hj hn
        omega)
      have HST := Lib.hid (countedUp_succ (l.map (·.s)) j)
      go_wp2_with (refine wpList_load_row rfl 31 (.tmp 1) rfl w.heap.size rfl 31 #[.slice A n c] (0, 0) _ HX0.out Tryz.underlying31 rfl (by kernel_rfl) ?_)
      refine (refOf_any A n c l (j : Int) wr HLJ.out (by omega) (fun p hp => (HS.out p hp).few)).mono ?_
      rintro e w1 ⟨v1, l1, rfl, hm1, ho1, hb1⟩
      obtain ⟨A1, c1, hv1, hr1⟩ := ho1.row
      subst hv1
      have HS1 : Hid (∀ p ∈ l1, Small p.s) := Lib.hid fun p hp => by
        have h1 : p.s ∈ ofS (j : Int) (l.map (·.s)) := by rw [← hm1]; exact List.mem_map_of_mem hp
        obtain ⟨r, hr, he⟩ := List.mem_map.1 (ofS_mem h1)
        rw [← he]; exact HS.out r hr
      have hl1 : l1.length ≤ n := by
        have h1 := congrArg List.length hm1
        have h2 := ofS_len (j : Int) (l.map (·.s))
        rw [List.length_map] at h1 h2
        have h3 := HLN.out
        omega
      have HM1 := Lib.hid hm1; have HR1 := Lib.hid hr1
      have HO1 := Lib.hid (HQ.out.1.later hb1); have HB1 := Lib.hid (HQ.out.2.2.1.trans (hb1.mono HQ.out.2.2.1.size)); have HM := Lib.hid HQ.out.2.1; have HHQ := Lib.hid HQ.out.2.2.2
      clear hm1 ho1 hb1 hr1 HQ HX0 HLJ
      go_wp2_with fail
      refine (refCounted_hi (j : Int) A1 l1.length c1 l1 w1 HR1.out (by omega) HS1.out).mono ?_
      rintro e w2 ⟨v2, l2, rfl, hm2, ho2, hhi2, hb2⟩
      obtain ⟨A2, c2, hv2, hr2⟩ := ho2.row
      subst hv2
      have hl2 : l2.length ≤ n := by
        have h1 := congrArg List.length hm2
        have h2 := countedR_len (j : Int) (l1.map (·.s))
        rw [List.length_map] at h1 h2
        omega
      have HM2 : Hid (l2.map (·.s) = countedR (j : Int) (ofS (j : Int) (l.map (·.s)))) := Lib.hid (by rw [hm2, HM1.out])
      have HR2 := Lib.hid hr2
      have HCL : Hid (∀ p ∈ l2, PlOk w2 p ∧ Clear (.slice A3 l'.length c3) p) := Lib.hid fun p hp => ⟨(ho2.ok p hp).1, clear_new (w := w1) (q := p) (hhi2 p hp).1 (hhi2 p hp).2 (own_lt HO1.out.own)⟩
      have HO2 := Lib.hid (HO1.out.later hb2); have HB2 := Lib.hid (HB1.out.trans (hb2.mono HB1.out.size))
      have HH2 : Hid (HiL y0.heap.size l2) := Lib.hid (HiL.mono (fun p hp => hhi2 p hp) HB1.out.size)
      clear hm2 ho2 hhi2 hb2 hr2 HR1 HS1 HM1 HO1 HB1
      have hle := HLE.out
      go_wp2_with (at_builtin; go_must (refine wpList_app2 w2 rfl (.tmp 9) (.tmp 14) 28 28 58 rfl y0.heap.size Tryz.underlying28 stm_info rfl _ l'.length (plsC l') HO2.out.own rfl _ l2.length (plsC l2) (Row.src HR2.out.row Tryz.underlying28 (plsC_one _)) rfl (by unfold maxLen; omega) (by omega) HB2.out.size ?_); intro v4 z4 ho hb hkp hv; have HO4 := Lib.hid (HO2.out.app (m := l2) HCL.out ho hkp hv); have HB4 := Lib.hid (HB2.out.trans hb); clear ho hb hkp hv)
      refine ⟨⟨j + 1, l' ++ l2, hlt, by go_num, Lib.hid ⟨HO4.out, ?_, HB4.out, HiL.app HHQ.out HH2.out⟩⟩, by simp [intOf]; omega⟩
      rw [List.map_append, HM.out, HM2.out, HST.out]
    · have hlt2 : ¬ (j : Int) < 64 := by omega
      have HE : Hid (j = 64) := by unfold Hid; omega
      go_wp2_with fail
      go_ret
      exact ⟨_, rfl, l', by rw [HQ.out.2.1, HE.out]; rfl, HQ.out.1.mono (Nat.le_of_lt HGL.out), HQ.out.2.2.2.mono (Nat.le_of_lt HGL.out), HNW.out.trans (HQ.out.2.2.1.mono HNW.out.size)⟩
theorem LRow.butD {D B : Nat} {w w' : World} {A : Option Addr} {n c : Nat} {l : List Pl} (h : LRow w A n c l) (hA : ∀ ad, A = some ad → B ≤ ad.block) (hi : HiL B l) (hb : But D w w') (hD : D < B) : LRow w' A n c l :=
  ⟨Row.but h.row hb fun ad e _ => by have := hA ad e; omega, fun p hp => (h.ok p hp).butD hb (hi p hp) hD⟩
theorem LOwn.low {w : World} {B : Nat} {A : Option Addr} {n c : Nat} {l : List Pl} (h : LOwn w B (.slice A n c) l) : ∀ ad, A = some ad → B ≤ ad.block := fun ad e => own_ge h.own ad.block (by subst e; rfl)
theorem countedR_author {au : Int} {l : List Stm} {s : Stm} (h : s ∈ countedR au l) : s.author = au := (ownL_mem (List.mem_of_mem_take h)).2.1
theorem countedR_number (au : Int) (l : List Stm) (i : Nat) (hi : i < (countedR au l).length) : ((countedR au l).getD i noStm).number = (i : Int) := by
  unfold countedR at hi ⊢
  have hi2 : i < countsFrom (ownL au l) (ownL au l).length 0 := by rw [List.length_take] at hi; omega
  rw [getD_take7 _ hi2]
  have h1 := countsFrom_all (ownL au l) (ownL au l).length 0 i (Nat.zero_le _) hi2
  unfold stepR at h1
  rw [Bool.and_eq_true, decide_eq_true_eq] at h1
  exact h1.1
theorem countedR_ord (au : Int) (l : List Stm) : (countedR au l).Pairwise fun a b => a.author < b.author ∨ (a.author = b.author ∧ a.number < b.number) := by
  rw [List.pairwise_iff_getElem]
  intro i j hi hj hij
  have h1 := countedR_number au l i hi
  have h2 := countedR_number au l j hj
  rw [List.getD_eq_getElem?_getD, List.getElem?_eq_getElem hi, Option.getD_some] at h1
  rw [List.getD_eq_getElem?_getD, List.getElem?_eq_getElem hj, Option.getD_some] at h2
  exact .inr ⟨by rw [countedR_author (List.getElem_mem hi), countedR_author (List.getElem_mem hj)], by rw [h1, h2]; omega⟩
theorem countedUp_ord (l : List Stm) : ∀ j, (countedUp l j).Pairwise fun a b => a.author < b.author ∨ (a.author = b.author ∧ a.number < b.number)
  | 0 => List.Pairwise.nil
  | j + 1 => by
    rw [countedUp_succ]
    refine List.pairwise_append.2 ⟨countedUp_ord l j, countedR_ord _ _, fun a ha b hb => ?_⟩
    obtain ⟨k, hk, ha⟩ := List.mem_flatMap.1 ha
    have h1 := countedR_author ha
    have h2 := countedR_author hb
    have h3 := List.mem_range.1 hk
    exact .inl (by omega)
theorem ord10_counted (l : List Stm) : Ord10 (countedAll l) := ⟨fun _ h => counted_check h, countedAll_linked l, countedUp_ord l 64⟩
end Go.Proofs.YtjmapbaofpilaaaGreat
/- Plain facts on vouches: their order, which are active, and that statements with a later time do not matter. -/
namespace Go.Proofs.YtjmapbaofpilaaaGreat
open Go.RowKit
/-- The order of vouches, as a proposition. -/
def ltV (a b : Vou) : Prop := a.fr < b.fr ∨ (a.fr = b.fr ∧ (a.tu < b.tu ∨ (a.tu = b.tu ∧ a.nu < b.nu)))
theorem lessV_iff (a b : Vou) : lessV a b = true ↔ ltV a b := by
  unfold lessV ltV
  split
  · split
    · rw [decide_eq_true_eq]; omega
    · rw [decide_eq_true_eq]; omega
  · rw [decide_eq_true_eq]; omega
theorem ltV_trans {a b c : Vou} (h : ltV a b) (k : ltV b c) : ltV a c := by unfold ltV at *; omega
/-- The same two, the same number. -/
def keyV (a b : Vou) : Prop := a.fr = b.fr ∧ a.tu = b.tu ∧ a.nu = b.nu
theorem ltV_of_not {a b : Vou} (h : ¬ ltV a b) (k : ¬ keyV a b) : ltV b a := by unfold ltV keyV at *; omega
theorem backV_all (f : Vou → Bool) (l : List Vou) : ∀ k i, backV f l k ≤ i → i < k → f (l.getD i noVou) = true
  | 0, i, _, h => absurd h (Nat.not_lt_zero _)
  | k + 1, i, h1, h2 => by
    by_cases hf : f (l.getD k noVou) = true
    · rw [backV_go hf] at h1
      by_cases hik : i = k
      · rw [hik]; exact hf
      · exact backV_all f l k i h1 (by omega)
    · rw [backV_stop (by simpa using hf)] at h1
      omega
theorem backV_last (f : Vou → Bool) (l : List Vou) : ∀ k, 0 < backV f l k → f (l.getD (backV f l k - 1) noVou) = false
  | 0, h => absurd h (Nat.not_lt_zero _)
  | k + 1, h => by
    by_cases hf : f (l.getD k noVou) = true
    · rw [backV_go hf] at h ⊢
      exact backV_last f l k h
    · rw [backV_stop (by simpa using hf)]
      simpa using hf
theorem insV_mem {l : List Vou} {x y : Vou} : y ∈ insV l x ↔ y = x ∨ y ∈ l := by
  unfold insV
  rw [List.mem_append, List.mem_cons]
  constructor
  · rintro (h | h | h)
    · exact .inr (List.mem_of_mem_take h)
    · exact .inl h
    · exact .inr (List.mem_of_mem_drop h)
  · rintro (h | h)
    · exact .inr (.inl h)
    · rw [← List.take_append_drop (backV (lessV x) l l.length) l, List.mem_append] at h
      rcases h with h | h
      · exact .inl h
      · exact .inr (.inr h)
theorem sortV_at {l : List Vou} (h : l.Pairwise ltV) {i j : Nat} (hij : i < j) (hj : j < l.length) : ltV (l.getD i noVou) (l.getD j noVou) := by
  rw [List.pairwise_iff_getElem] at h
  have := h i j (by omega) hj hij
  rw [List.getD_eq_getElem?_getD, List.getElem?_eq_getElem (by omega), List.getD_eq_getElem?_getD, List.getElem?_eq_getElem hj]
  exact this
theorem getDV {l : List Vou} {i : Nat} (h : i < l.length) : l.getD i noVou = l[i] := by
  rw [List.getD_eq_getElem?_getD, List.getElem?_eq_getElem h]; rfl
theorem memV {l : List Vou} {y : Vou} (h : y ∈ l) : ∃ i, i < l.length ∧ l.getD i noVou = y := by
  obtain ⟨i, hi, he⟩ := List.mem_iff_getElem.1 h
  exact ⟨i, hi, by rw [getDV hi, he]⟩
theorem insV_sorted {l : List Vou} {x : Vou} (h : l.Pairwise ltV) (hk : ∀ y ∈ l, ¬ keyV x y) : (insV l x).Pairwise ltV := by
  obtain ⟨p, hp⟩ : ∃ p, backV (lessV x) l l.length = p := ⟨_, rfl⟩
  have h1 : ∀ i, p ≤ i → i < l.length → ltV x (l.getD i noVou) := fun i a b => (lessV_iff _ _).1 (backV_all (lessV x) l l.length i (by rw [hp]; exact a) b)
  have hpl : p ≤ l.length := by rw [← hp]; exact backV_le _ _ _
  have h2 : 0 < p → ltV (l.getD (p - 1) noVou) x := fun h0 => by
    have h3 := backV_last (lessV x) l l.length (by rw [hp]; exact h0)
    rw [hp] at h3
    refine ltV_of_not (fun hc => ?_) (hk _ (by rw [getDV (by omega)]; exact List.getElem_mem _))
    rw [(lessV_iff _ _).2 hc] at h3
    cases h3
  unfold insV
  rw [hp]
  refine List.pairwise_append.2 ⟨h.sublist (List.take_sublist _ _), List.pairwise_cons.2 ⟨fun b hb => ?_, h.sublist (List.drop_sublist _ _)⟩, fun a ha b hb => ?_⟩
  · obtain ⟨i, hi, he⟩ := List.mem_iff_getElem.1 hb
    rw [List.getElem_drop] at he
    rw [List.length_drop] at hi
    have := h1 (p + i) (by omega) (by omega)
    rw [getDV (by omega), he] at this
    exact this
  · obtain ⟨i, hi, he⟩ := List.mem_iff_getElem.1 ha
    rw [List.getElem_take] at he
    rw [List.length_take] at hi
    have ha2 : l.getD i noVou = a := by rw [getDV (by omega), he]
    rcases List.mem_cons.1 hb with rfl | hb
    · rw [← ha2]
      by_cases hip : i = p - 1
      · rw [hip]; exact h2 (by omega)
      · exact ltV_trans (sortV_at h (show i < p - 1 by omega) (by omega)) (h2 (by omega))
    · obtain ⟨j, hj, he2⟩ := List.mem_iff_getElem.1 hb
      rw [List.getElem_drop] at he2
      rw [List.length_drop] at hj
      rw [← ha2, ← he2, ← getDV (by omega : p + j < l.length)]
      exact sortV_at h (by omega) (by omega)
/-- No two statements of one author and number. -/
def ApartN (m : List Stm) : Prop := m.Pairwise fun a b => ¬ (a.author = b.author ∧ a.number = b.number)
theorem vfold_sorted (L : List Stm) : ∀ (m : List Stm) (out : List Vou), out.Pairwise ltV → ApartN m → (∀ y ∈ out, ∀ s ∈ m, ¬ keyV (vouOf L s) y) →
    (m.foldl (vouStep L) out).Pairwise ltV ∧ ∀ y, y ∈ m.foldl (vouStep L) out ↔ y ∈ out ∨ ∃ s ∈ m, s.kind = 1 ∧ y = vouOf L s
  | [], out, h, _, _ => ⟨h, fun y => by simp⟩
  | s :: m, out, h, ha, hk => by
    have ha2 := List.pairwise_cons.1 ha
    rw [List.foldl_cons]
    by_cases hs : s.kind = 1
    · have hst : vouStep L out s = insV out (vouOf L s) := by unfold vouStep; rw [if_pos hs]
      rw [hst]
      have ih := vfold_sorted L m (insV out (vouOf L s)) (insV_sorted h fun y hy => hk y hy s (List.mem_cons.2 (.inl rfl))) ha2.2 fun y hy t ht => by
        rcases insV_mem.1 hy with rfl | hy
        · exact fun hc => ha2.1 t ht ⟨hc.1.symm, hc.2.2.symm⟩
        · exact hk y hy t (List.mem_cons.2 (.inr ht))
      refine ⟨ih.1, fun y => ?_⟩
      rw [ih.2, insV_mem]
      constructor
      · rintro ((h | h) | ⟨t, ht, h⟩)
        · exact .inr ⟨s, List.mem_cons.2 (.inl rfl), hs, h⟩
        · exact .inl h
        · exact .inr ⟨t, List.mem_cons.2 (.inr ht), h⟩
      · rintro (h | ⟨t, ht, h⟩)
        · exact .inl (.inr h)
        · rcases List.mem_cons.1 ht with rfl | ht
          · exact .inl (.inl h.2)
          · exact .inr ⟨t, ht, h⟩
    · have hst : vouStep L out s = out := by unfold vouStep; rw [if_neg hs]
      rw [hst]
      have ih := vfold_sorted L m out h ha2.2 fun y hy t ht => hk y hy t (List.mem_cons.2 (.inr ht))
      refine ⟨ih.1, fun y => ?_⟩
      rw [ih.2]
      constructor
      · rintro (h | ⟨t, ht, h⟩)
        · exact .inl h
        · exact .inr ⟨t, List.mem_cons.2 (.inr ht), h⟩
      · rintro (h | ⟨t, ht, h⟩)
        · exact .inl h
        · rcases List.mem_cons.1 ht with rfl | ht
          · exact absurd h.1 hs
          · exact .inr ⟨t, ht, h⟩
theorem Ord10.apartN {S : List Stm} (h : Ord10 S) : ApartN S := h.ord.imp fun h => by omega
theorem vouches_sorted {S : List Stm} (h : Ord10 S) : (vouchesS S).Pairwise ltV := (vfold_sorted S S [] List.Pairwise.nil h.apartN fun _ h => (nomatch h)).1
theorem vouches_mem {S : List Stm} (h : Ord10 S) (y : Vou) : y ∈ vouchesS S ↔ ∃ s ∈ S, s.kind = 1 ∧ y = vouOf S s := by
  unfold vouchesS
  rw [(vfold_sorted S S [] List.Pairwise.nil h.apartN fun _ h => (nomatch h)).2]
  simp
end Go.Proofs.YtjmapbaofpilaaaGreat
/- Plain facts on what is active: at most one between two, and statements with a later time do not matter. -/
namespace Go.Proofs.YtjmapbaofpilaaaGreat
open Go.RowKit
theorem stm_at {l : List Stm} {i : Nat} (h : i < l.length) : l.getD i noStm = l[i] := by
  rw [List.getD_eq_getElem?_getD, List.getElem?_eq_getElem h]; rfl
theorem Ord10.at {S : List Stm} (h : Ord10 S) {i j : Nat} (hij : i < j) (hj : j < S.length) : (S.getD i noStm).author < (S.getD j noStm).author ∨ ((S.getD i noStm).author = (S.getD j noStm).author ∧ (S.getD i noStm).number < (S.getD j noStm).number) := by
  have h1 := h.ord
  rw [List.pairwise_iff_getElem] at h1
  rw [stm_at hj, stm_at (by omega : i < S.length)]
  exact h1 i j (by omega) hj hij
theorem linked_time : ∀ {l : List Stm} {o : Option Stm}, Linked o l → ∀ i, i < l.length → 0 < (l.getD i noStm).number → 0 < i → (l.getD (i - 1) noStm).time ≤ (l.getD i noStm).time
  | [], _, _, i, hi, _, _ => absurd hi (Nat.not_lt_zero _)
  | s :: l, o, h, i, hi, h0, hp => by
    obtain ⟨k, rfl⟩ : ∃ k, i = k + 1 := ⟨i - 1, by omega⟩
    cases k with
    | zero =>
      cases l with
      | nil => exact absurd hi (by simp)
      | cons t m =>
        obtain ⟨p, hp, _, _, h3⟩ := h.2.1 h0
        injection hp with hp
        subst hp
        exact h3
    | succ k => exact linked_time h.2 (k + 1) (Nat.lt_of_succ_lt_succ hi) h0 (Nat.succ_pos _)
/-- An author's times rise with the numbers. -/
theorem Ord10.mono {S : List Stm} (h : Ord10 S) (i : Nat) : ∀ d, i + d < S.length → (S.getD i noStm).author = (S.getD (i + d) noStm).author → (S.getD i noStm).time ≤ (S.getD (i + d) noStm).time
  | 0, _, _ => Int.le_refl _
  | d + 1, hd, ha => by
    have h0 : 0 ≤ (S.getD i noStm).number := by
      rw [stm_at (by omega : i < S.length)]
      exact (check_bounds (h.ok _ (List.getElem_mem _))).2.2.1
    have h1 := h.at (show i < i + (d + 1) by omega) hd
    have h2 : 0 < (S.getD (i + (d + 1)) noStm).number := by omega
    have h3 := linked_time h.link (i + (d + 1)) hd h2 (by omega)
    rcases h.link.at (i + (d + 1)) hd h2 with ⟨h4, _⟩ | ⟨_, h5, _⟩
    · omega
    · rw [show i + (d + 1) - 1 = i + d by omega] at h3 h5
      exact Int.le_trans (h.mono i d (by omega) (by rw [ha, h5])) h3
theorem mem_at {S : List Stm} {s : Stm} (h : s ∈ S) : ∃ i, i < S.length ∧ S.getD i noStm = s := by
  obtain ⟨i, hi, he⟩ := List.mem_iff_getElem.1 h
  exact ⟨i, hi, by rw [stm_at hi, he]⟩
theorem Ord10.times {S : List Stm} (h : Ord10 S) {a b : Stm} (ha : a ∈ S) (hb : b ∈ S) (he : a.author = b.author) (hn : a.number < b.number) : a.time ≤ b.time := by
  obtain ⟨i, hi, rfl⟩ := mem_at ha
  obtain ⟨j, hj, rfl⟩ := mem_at hb
  have hij : i < j := by
    rcases Nat.lt_or_ge j i with hc | hc
    · have := h.at hc hi; omega
    · rcases Nat.lt_or_ge i j with hd | hd
      · exact hd
      · rw [show i = j by omega] at hn; omega
  have := h.mono i (j - i) (by omega) (by rw [show i + (j - i) = j by omega]; exact he)
  rwa [show i + (j - i) = j by omega] at this
theorem Ord10.until {S : List Stm} (h : Ord10 S) (tm : Int) : Ord10 (untilS tm S) :=
  ⟨fun s hs => h.ok s ((List.mem_filter.1 hs).1), h.link.until tm fun _ hp _ => hp, h.ord.sublist (List.filter_sublist)⟩
end Go.Proofs.YtjmapbaofpilaaaGreat
/- What is active, told by statements; what is active does not depend on statements with a later time. -/
namespace Go.Proofs.YtjmapbaofpilaaaGreat
open Go.RowKit
theorem vouches_times {S : List Stm} (h : Ord10 S) {y z : Vou} (hy : y ∈ vouchesS S) (hz : z ∈ vouchesS S) (he : y.fr = z.fr) (hn : y.nu < z.nu) : y.tm ≤ z.tm := by
  obtain ⟨s, hs, _, rfl⟩ := (vouches_mem h y).1 hy
  obtain ⟨t, ht, _, rfl⟩ := (vouches_mem h z).1 hz
  exact h.times hs ht he hn
theorem getV_mem {l : List Vou} {i : Nat} (h : i < l.length) : l.getD i noVou ∈ l := by rw [getDV h]; exact List.getElem_mem _
theorem later_iff {S : List Stm} (h : Ord10 S) (tm : Int) (i : Nat) (hi : i < (vouchesS S).length) : laterB (vouchesS S) tm i = true ↔ ∃ y ∈ vouchesS S, y.fr = ((vouchesS S).getD i noVou).fr ∧ y.tu = ((vouchesS S).getD i noVou).tu ∧ ((vouchesS S).getD i noVou).nu < y.nu ∧ y.tm ≤ tm := by
  have hs := vouches_sorted h
  have ht := @vouches_times S h
  generalize vouchesS S = all at *
  unfold laterB
  simp only [Bool.and_eq_true, decide_eq_true_eq]
  constructor
  · rintro ⟨h1, h2, h3, h4⟩
    refine ⟨_, getV_mem h1, h2, h3, ?_, h4⟩
    have := sortV_at hs (show i < i + 1 by omega) h1
    unfold ltV at this
    omega
  · rintro ⟨y, hy, h2, h3, h4, h5⟩
    obtain ⟨k, hk, rfl⟩ := memV hy
    have hik : i < k := by
      rcases Nat.lt_or_ge k i with hc | hc
      · have := sortV_at hs hc hi
        unfold ltV at this
        omega
      · rcases Nat.lt_or_ge i k with hd | hd
        · exact hd
        · rw [show i = k by omega] at h4; omega
    have h1 : i + 1 < all.length := by omega
    have h6 := sortV_at hs (show i < i + 1 by omega) h1
    by_cases hk1 : k = i + 1
    · rw [← hk1]; exact ⟨hk, h2, h3, h5⟩
    · have h7 := sortV_at hs (show i + 1 < k by omega) hk
      have h8 : (all.getD (i + 1) noVou).fr = (all.getD i noVou).fr ∧ (all.getD (i + 1) noVou).tu = (all.getD i noVou).tu ∧ (all.getD (i + 1) noVou).nu < (all.getD k noVou).nu := by unfold ltV at h6 h7; omega
      have h9 := ht (getV_mem h1) hy (by omega) h8.2.2
      exact ⟨h1, h8.1, h8.2.1, by omega⟩
theorem until_iff (tm : Int) (S : List Stm) (s : Stm) : s ∈ untilS tm S ↔ s ∈ S ∧ s.time ≤ tm := by
  unfold untilS
  rw [List.mem_filter, decide_eq_true_eq]
/-- Two lists in one strict order with the same elements are the same. -/
theorem sorted_ext {α : Type} {r : α → α → Prop} (hr : ∀ a b, r a b → ¬ r b a) : ∀ {l m : List α}, l.Pairwise r → m.Pairwise r → (∀ x, x ∈ l ↔ x ∈ m) → l = m
  | [], [], _, _, _ => rfl
  | [], b :: m, _, _, h => absurd ((h b).2 (List.mem_cons.2 (.inl rfl))) (by simp)
  | a :: l, [], _, _, h => absurd ((h a).1 (List.mem_cons.2 (.inl rfl))) (by simp)
  | a :: l, b :: m, hl, hm, h => by
    have hl2 := List.pairwise_cons.1 hl
    have hm2 := List.pairwise_cons.1 hm
    have hab : a = b := by
      rcases List.mem_cons.1 ((h a).1 (List.mem_cons.2 (.inl rfl))) with e | e
      · exact e
      · rcases List.mem_cons.1 ((h b).2 (List.mem_cons.2 (.inl rfl))) with f | f
        · exact f.symm
        · exact absurd (hm2.1 a e) (hr _ _ (hl2.1 b f))
    subst hab
    rw [sorted_ext hr hl2.2 hm2.2 fun x => ?_]
    constructor
    · intro hx
      rcases List.mem_cons.1 ((h x).1 (List.mem_cons.2 (.inr hx))) with e | e
      · subst e
        have := hl2.1 x hx
        exact absurd this (hr _ _ this)
      · exact e
    · intro hx
      rcases List.mem_cons.1 ((h x).2 (List.mem_cons.2 (.inr hx))) with e | e
      · subst e
        have := hm2.1 x hx
        exact absurd this (hr _ _ this)
      · exact e
end Go.Proofs.YtjmapbaofpilaaaGreat
/- Plain facts on an author's chain that was made statement by statement: all of it counts; what comes next; it is in layer 10's order. -/
namespace Go.Proofs.YtjmapbaofpilaaaGreat
open Go.RowKit
/-- A chain of an author: numbers from 0, each follows the one before it, none after the last word. -/
structure Ch (au : Int) (c : List Stm) : Prop where
  each : ∀ i, i < c.length → (c.getD i noStm).author = au ∧ (c.getD i noStm).number = (i : Int) ∧ checkV (c.getD i noStm) = 0 ∧ sealedB (c.getD i noStm) = true
  step : ∀ i, 0 < i → i < c.length → followsR (c.getD (i - 1) noStm) (c.getD i noStm) = true ∧ (c.getD (i - 1) noStm).kind ≠ 3
theorem Ch.nil (au : Int) : Ch au [] := ⟨fun _ h => absurd h (Nat.not_lt_zero _), fun _ _ h => absurd h (Nat.not_lt_zero _)⟩
theorem snoc_lt {c : List Stm} {x : Stm} {i : Nat} (h : i < c.length) : (c ++ [x]).getD i noStm = c.getD i noStm := by
  rw [List.getD_eq_getElem?_getD, List.getElem?_append_left h, ← List.getD_eq_getElem?_getD]
theorem snoc_eq {c : List Stm} {x : Stm} : (c ++ [x]).getD c.length noStm = x := by
  rw [List.getD_eq_getElem?_getD, List.getElem?_append_right (Nat.le_refl _), Nat.sub_self]; rfl
theorem Ch.snoc {au : Int} {c : List Stm} {x : Stm} (h : Ch au c) (ha : x.author = au) (hn : x.number = (c.length : Int)) (hc : checkV x = 0) (hs : sealedB x = true) (hf : 0 < c.length → followsR (lastL c) x = true ∧ (lastL c).kind ≠ 3) : Ch au (c ++ [x]) := by
  constructor
  · intro i hi
    rw [List.length_append, List.length_singleton] at hi
    by_cases hl : i < c.length
    · rw [snoc_lt hl]; exact h.each i hl
    · rw [show i = c.length by omega, snoc_eq]; exact ⟨ha, hn, hc, hs⟩
  · intro i h0 hi
    rw [List.length_append, List.length_singleton] at hi
    by_cases hl : i < c.length
    · rw [snoc_lt hl, snoc_lt (by omega)]; exact h.step i h0 hl
    · have he : i = c.length := by omega
      subst he
      rw [snoc_eq, snoc_lt (by omega)]
      exact hf h0
theorem slotK_all : ∀ (l : List Stm) (x : Stm), (∀ a ∈ l, slotB a x = true) → slotK l x = l.length
  | [], _, _ => rfl
  | a :: l, x, h => by
    unfold slotK
    rw [if_pos (h a (List.mem_cons.2 (.inl rfl))), slotK_all l x fun b hb => h b (List.mem_cons.2 (.inr hb))]
    rfl
theorem putL_end {l : List Stm} {x : Stm} (h : ∀ a ∈ l, slotB a x = true) : putL l x = l ++ [x] := by
  unfold putL
  rw [slotK_all l x h, if_neg (fun hc => absurd hc.1 (Nat.lt_irrefl _)), List.take_length, List.drop_length]
theorem take_snoc {c : List Stm} {k : Nat} (h : k < c.length) : c.take (k + 1) = c.take k ++ [c.getD k noStm] := by
  rw [List.take_add_one, List.getElem?_eq_getElem h, stm_at h]; rfl
theorem Ch.own {au : Int} {c : List Stm} (h : Ch au c) : ∀ k, k ≤ c.length → ownL au (c.take k) = c.take k
  | 0, _ => rfl
  | k + 1, hk => by
    have h1 := h.each k (by omega)
    rw [take_snoc (by omega), ownL_app, h.own k (by omega)]
    unfold ownStep
    rw [if_pos ⟨h1.1, h1.2.2.1, h1.2.2.2⟩, putL_end fun a ha => ?_]
    obtain ⟨i, hi, he⟩ := List.mem_iff_getElem.1 ha
    rw [List.length_take] at hi
    rw [List.getElem_take] at he
    have h2 := h.each i (by omega)
    rw [stm_at (by omega : i < c.length), he] at h2
    rw [slotB_eq, if_pos (by omega)]
theorem Ch.own_all {au : Int} {c : List Stm} (h : Ch au c) : ownL au c = c := by
  have := h.own c.length (Nat.le_refl _)
  rwa [List.take_length] at this
theorem Ch.stepR {au : Int} {c : List Stm} (h : Ch au c) {i : Nat} (hi : i < c.length) : stepR c i = true := by
  have h1 := h.each i hi
  unfold Go.Proofs.YtjmapbaofpilaaaGreat.stepR
  simp only [Bool.and_eq_true, Bool.or_eq_true, decide_eq_true_eq, Bool.not_eq_true']
  refine ⟨h1.2.1, ?_, ?_⟩
  · by_cases hn : i + 1 < c.length
    · have h2 := h.each (i + 1) hn
      rw [decide_eq_false (p := (c.getD (i + 1) noStm).number = (i : Int)) (by omega), Bool.and_false]
    · rw [decide_eq_false hn, Bool.false_and]
  · by_cases h0 : i = 0
    · exact .inl h0
    · have h2 := h.step i (by omega) hi
      exact .inr ⟨h2.1, by rw [decide_eq_false h2.2]⟩
theorem Ch.counts {au : Int} {c : List Stm} (h : Ch au c) : ∀ d i, i + d = c.length → countsFrom c (c.length - i) i = c.length
  | 0, i, hd => by rw [show c.length - i = 0 by omega]; unfold countsFrom; omega
  | d + 1, i, hd => by rw [countsFrom_step c c.length i (by omega) (h.stepR (by omega))]; exact h.counts d (i + 1) (by omega)
/-- All of a chain counts. -/
theorem Ch.counted {au : Int} {c : List Stm} (h : Ch au c) : countedR au c = c := by
  have h1 := h.counts c.length 0 (by omega)
  rw [Nat.sub_zero] at h1
  unfold countedR
  rw [h.own_all, h1, List.take_length]
theorem sealed_seal (s : Stm) : sealedB (sealOf s) = true := by
  show (decide (s.author = s.author) && decide (digS s = digS (sealOf s))) = true
  rw [decide_eq_true rfl, show digS (sealOf s) = digS s from rfl, decide_eq_true rfl]
  rfl
theorem Ch.more {au : Int} {c : List Stm} (h : Ch au c) {s : Stm} (ht : 0 < c.length → (lastL c).time ≤ s.time) (hk : 0 < c.length → (lastL c).kind ≠ 3) (hc : checkV (sealOf (draftR au c s)) = 0) : Ch au (c ++ [sealOf (draftR au c s)]) := by
  refine h.snoc ?_ ?_ hc (sealed_seal _) fun h0 => ⟨?_, hk h0⟩
  · unfold draftR; split <;> rfl
  · unfold draftR
    split
    · rename_i hz; rw [hz]; rfl
    · rfl
  · have h1 := h.each (c.length - 1) (by omega)
    unfold draftR
    rw [if_neg (by omega)]
    show (decide (au = (lastL c).author) && (decide ((c.length : Int) = (lastL c).number + 1) && (decide (digS (lastL c) = digS (lastL c)) && decide ((lastL c).time ≤ s.time)))) = true
    have h2 : (lastL c).author = au := h1.1
    have h3 : (lastL c).number = ((c.length - 1 : Nat) : Int) := h1.2.1
    rw [decide_eq_true h2.symm, decide_eq_true (by omega), decide_eq_true rfl, decide_eq_true (ht h0)]
    rfl
/-- What comes next in a chain. -/
theorem Ch.next {au : Int} {c : List Stm} (h : Ch au c) {s : Stm} (ht : 0 < c.length → (lastL c).time ≤ s.time) (hk : 0 < c.length → (lastL c).kind ≠ 3) (hc : checkV (sealOf (draftR au c s)) = 0) : nextP au c s = (sealOf (draftR au c s), 0) := by
  unfold nextP
  rw [if_neg (fun hx => by rw [h.counted, sameLB_self] at hx; exact absurd hx.2 (by decide)), if_neg (fun hx => by have := ht (by omega); omega), if_neg (fun hx => hk (by omega) hx.2), if_pos hc]
/-- What Next gave, put behind a chain, is a chain. -/
theorem Ch.given {au : Int} {c : List Stm} (h : Ch au c) {s : Stm} (he : (nextP au c s).2 = 0) : Ch au (c ++ [(nextP au c s).1]) := by
  by_cases h1 : c.length ≠ 0 ∧ sameLB (countedR au c) c = false
  · unfold nextP at he; rw [if_pos h1] at he; exact absurd he (by decide)
  · by_cases h2 : c.length ≠ 0 ∧ s.time < (lastL c).time
    · unfold nextP at he; rw [if_neg h1, if_pos h2] at he; exact absurd he (by decide)
    · by_cases h3 : c.length ≠ 0 ∧ (lastL c).kind = 3
      · unfold nextP at he; rw [if_neg h1, if_neg h2, if_pos h3] at he; exact absurd he (by decide)
      · by_cases h4 : checkV (sealOf (draftR au c s)) = 0
        · have h5 : nextP au c s = (sealOf (draftR au c s), 0) := by unfold nextP; rw [if_neg h1, if_neg h2, if_neg h3, if_pos h4]
          rw [h5]
          exact h.more (fun h0 => by omega) (fun h0 hc => h3 ⟨by omega, hc⟩) h4
        · unfold nextP at he; rw [if_neg h1, if_neg h2, if_neg h3, if_neg h4] at he; exact absurd he h4
theorem Ord10.app {l m : List Stm} (h : Ord10 l) (k : Ord10 m) (hlm : ∀ a ∈ l, ∀ b ∈ m, a.author < b.author) : Ord10 (l ++ m) :=
  ⟨fun s hs => by
    rcases List.mem_append.1 hs with hs | hs
    · exact h.ok s hs
    · exact k.ok s hs, h.link.app k.link, List.pairwise_append.2 ⟨h.ord, k.ord, fun a ha b hb => .inl (hlm a ha b hb)⟩⟩
end Go.Proofs.YtjmapbaofpilaaaGreat
/- Plain facts on the vouch between two: it is the last one by then, or none. -/
namespace Go.Proofs.YtjmapbaofpilaaaGreat
open Go.RowKit
theorem Ord10.same {S : List Stm} (h : Ord10 S) {a b : Stm} (ha : a ∈ S) (hb : b ∈ S) (he : a.author = b.author) (hn : a.number = b.number) : a = b := by
  obtain ⟨i, hi, rfl⟩ := mem_at ha
  obtain ⟨j, hj, rfl⟩ := mem_at hb
  rcases Nat.lt_or_ge i j with hc | hc
  · have := h.at hc hj; omega
  · rcases Nat.lt_or_ge j i with hd | hd
    · have := h.at hd hi; omega
    · rw [show i = j by omega]
end Go.Proofs.YtjmapbaofpilaaaGreat
/- What vouch looks for in Active, and that it comes to the same. Plain facts. -/
namespace Go.Proofs.YtjmapbaofpilaaaGreat
open Go.RowKit
/-- Whether a vouch, looked at alone, holds at a time. -/
def holdsV (p : Vou) (tm : Int) : Bool := decide (p.tm ≤ tm) && (decide (tm < p.en) && (decide (p.rv = -1) || decide (tm < p.rv)))
/-- Whether one of those that follow at once takes its place. -/
def runLater (p : Vou) (tm : Int) : List Vou → Bool
  | [] => false
  | y :: m => if y.fr ≠ p.fr ∨ y.tu ≠ p.tu then false else if y.tm ≤ tm then true else runLater p tm m
def keepA (all : List Vou) (gone : List Int) (tm : Int) (i : Nat) : Bool :=
  holdsV (all.getD i noVou) tm && (!hasI gone (all.getD i noVou).fr && (!hasI gone (all.getD i noVou).tu && !runLater (all.getD i noVou) tm (all.drop (i + 1))))
def actA (all : List Vou) (gone : List Int) (tm : Int) : Nat → List Vou
  | 0 => []
  | i + 1 => actA all gone tm i ++ (if keepA all gone tm i then [all.getD i noVou] else [])
theorem actA_len (all : List Vou) (gone : List Int) (tm : Int) : ∀ i, (actA all gone tm i).length ≤ i
  | 0 => Nat.le_refl _
  | i + 1 => by
    have h := actA_len all gone tm i
    unfold actA
    rw [List.length_append]
    split <;> simp <;> omega
theorem runLater_iff (p : Vou) (tm : Int) : ∀ m : List Vou, runLater p tm m = true ↔ ∃ k, k < m.length ∧ (∀ i, i ≤ k → (m.getD i noVou).fr = p.fr ∧ (m.getD i noVou).tu = p.tu) ∧ (m.getD k noVou).tm ≤ tm
  | [] => by simp [runLater]
  | y :: m => by
    unfold runLater
    split
    · rename_i h
      refine ⟨(fun q => by cases q), ?_⟩
      rintro ⟨k, hk, hs, ht⟩
      have h0 := hs 0 (Nat.zero_le _)
      rw [List.getD_cons_zero] at h0
      rcases h with h | h
      · exact absurd h0.1 h
      · exact absurd h0.2 h
    · rename_i h
      have hy : y.fr = p.fr ∧ y.tu = p.tu := by
        by_cases h1 : y.fr = p.fr
        · by_cases h2 : y.tu = p.tu
          · exact ⟨h1, h2⟩
          · exact absurd (.inr h2) h
        · exact absurd (.inl h1) h
      split
      · rename_i ht
        refine ⟨fun _ => ⟨0, by simp, fun i hi => ?_, by simpa using ht⟩, fun _ => rfl⟩
        have : i = 0 := by omega
        subst this
        simpa using hy
      · rename_i ht
        rw [runLater_iff p tm m]
        constructor
        · rintro ⟨k, hk, hs, h2⟩
          refine ⟨k + 1, by simpa using hk, fun i hi => ?_, by simpa using h2⟩
          cases i with
          | zero => simpa using hy
          | succ i => simpa using hs i (by omega)
        · rintro ⟨k, hk, hs, h2⟩
          cases k with
          | zero => exact absurd (by simpa using h2) ht
          | succ k => exact ⟨k, by simpa using hk, fun i hi => by simpa using hs (i + 1) (by omega), by simpa using h2⟩
theorem run_later {S : List Stm} (h : Ord10 S) (tm : Int) (i : Nat) (hi : i < (vouchesS S).length) : runLater ((vouchesS S).getD i noVou) tm ((vouchesS S).drop (i + 1)) = laterB (vouchesS S) tm i := by
  have hsrt := vouches_sorted h
  rw [Bool.eq_iff_iff, runLater_iff, later_iff h tm i hi]
  have hd : ∀ k, ((vouchesS S).drop (i + 1)).getD k noVou = (vouchesS S).getD (i + 1 + k) noVou := fun k => by
    rw [List.getD_eq_getElem?_getD, List.getD_eq_getElem?_getD, List.getElem?_drop]
  constructor
  · rintro ⟨k, hk, hs, ht⟩
    rw [List.length_drop] at hk
    have hk2 : i + 1 + k < (vouchesS S).length := by omega
    have hsk := hs k (Nat.le_refl _)
    rw [hd] at hsk ht
    have hlt := sortV_at hsrt (show i < i + 1 + k by omega) hk2
    unfold ltV at hlt
    exact ⟨_, getV_mem hk2, hsk.1, hsk.2, by omega, ht⟩
  · intro hy
    have hb := (later_iff h tm i hi).2 hy
    unfold laterB at hb
    rw [Bool.and_eq_true, Bool.and_eq_true, Bool.and_eq_true, decide_eq_true_eq, decide_eq_true_eq, decide_eq_true_eq, decide_eq_true_eq] at hb
    refine ⟨0, by rw [List.length_drop]; omega, fun k hk => ?_, by rw [hd]; exact hb.2.2.2⟩
    have : k = 0 := by omega
    subst this
    rw [hd]
    exact ⟨hb.2.1, hb.2.2.1⟩
theorem actA_same {S : List Stm} (h : Ord10 S) (gone : List Int) (tm : Int) : ∀ i, i ≤ (vouchesS S).length → actA (vouchesS S) gone tm i = activeUp (vouchesS S) gone tm i
  | 0, _ => rfl
  | i + 1, hi => by
    show actA (vouchesS S) gone tm i ++ (if keepA (vouchesS S) gone tm i then [(vouchesS S).getD i noVou] else []) = activeUp (vouchesS S) gone tm i ++ (if keepV (vouchesS S) gone tm i then [(vouchesS S).getD i noVou] else [])
    rw [actA_same h gone tm i (by omega)]
    congr 1
    have : keepA (vouchesS S) gone tm i = keepV (vouchesS S) gone tm i := by
      unfold keepA keepV holdsV
      rw [run_later h tm i (by omega)]
      generalize decide (((vouchesS S).getD i noVou).tm ≤ tm) = a
      generalize decide (tm < ((vouchesS S).getD i noVou).en) = b
      generalize (decide (((vouchesS S).getD i noVou).rv = -1) || decide (tm < ((vouchesS S).getD i noVou).rv)) = c
      generalize laterB (vouchesS S) tm i = d
      generalize hasI gone ((vouchesS S).getD i noVou).fr = e
      generalize hasI gone ((vouchesS S).getD i noVou).tu = f
      revert a b c d e f
      decide
    rw [this]
end Go.Proofs.YtjmapbaofpilaaaGreat
/- The walks of cmp.Or, cmp.Compare, strings.Compare. -/
namespace Go.Proofs.YtjmapbaofpilaaaGreat
open Go.RowKit
/-- The first number that is not zero. -/
def firstNZ : List Int → Int
  | [] => 0
  | x :: l => if x = 0 then firstNZ l else x
theorem firstNZ_drop (l : List Int) (j : Nat) (h : ∀ i, i < j → l.getD i 0 = 0) (hj : j ≤ l.length) : firstNZ l = firstNZ (l.drop j) := by
  induction j with
  | zero => rfl
  | succ j ih =>
    rw [ih (fun i hi => h i (by omega)) (by omega), List.drop_eq_getElem_cons (show j < l.length by omega)]
    have h0 := h j (by omega)
    rw [List.getD_eq_getElem?_getD, List.getElem?_eq_getElem (by omega)] at h0
    exact if_pos h0
set_option maxRecDepth 100000 in
set_option maxHeartbeats 1000000 in
theorem or_any (A : Option Addr) (n c : Nat) (l : List Int) (w : World) (hl : IRow w A n c l) (hn : n ≤ 1000000) :
    Calls Tryz.prog 51 #[.slice A n c] w fun e w' => e = .returned (.int .i64 (firstNZ l)) ∧ w' = w := by
  have HL := Lib.hid hl; have HLN := Lib.hid hl.len
  clear hl
  go_enter Tryz.func51, Tryz.ntmps51
  go_wp2
  go_loopw [8] (fun i wr => ∃ j : Nat, j ≤ n ∧ i = .int .i64 j ∧ wr = w ∧ Hid (∀ i, i < j → l.getD i 0 = 0)) (fun i _ => n - (intOf i).toNat)
  case atStart => exact ⟨0, Nat.zero_le _, rfl, rfl, Lib.hid fun _ h => absurd h (Nat.not_lt_zero _)⟩
  case round =>
    obtain ⟨j, hj, rfl, rfl, HQ⟩ := hrel
    by_cases hlt : j < n
    · obtain ⟨ab, off, hA, hc0⟩ := HL.out.cell j hlt
      subst hA
      by_cases hz : l.getD j 0 = 0
      · rw [hz] at hc0
        have HZ := Lib.hid hz; clear hz
        go_wp2
        refine ⟨⟨j + 1, hlt, by go_num, by simp, Lib.hid fun i hi => ?_⟩, by simp [intOf]; omega⟩
        by_cases h : i = j
        · rw [h]; exact HZ.out
        · exact HQ.out i (by omega)
      · have HZ : Hid (firstNZ l = l.getD j 0) := Lib.hid (by
          rw [firstNZ_drop l j HQ.out (by have := HLN.out; omega), List.drop_eq_getElem_cons (show j < l.length by have := HLN.out; omega)]
          have e : l.getD j 0 = l[j]'(by have := HLN.out; omega) := by rw [List.getD_eq_getElem?_getD, List.getElem?_eq_getElem (by have := HLN.out; omega)]; rfl
          rw [e] at hz ⊢
          show (if l[j]'_ = 0 then _ else _) = _
          rw [if_neg hz])
        generalize l.getD j 0 = x at hc0 HZ hz
        have hx : (x != 0) = true := by simpa using hz
        clear hz
        go_wp2
        go_ret
        exact ⟨by rw [HZ.out]; rfl, rfl⟩
    · have HE : Hid (j = n) := by unfold Hid; omega
      go_wp2
      go_ret
      refine ⟨?_, rfl⟩
      rw [firstNZ_drop l j HQ.out (by have := HLN.out; omega), List.drop_eq_nil_of_le (by have := HLN.out; have := HE.out; omega)]
      rfl
set_option maxHeartbeats 1000000 in
theorem cmpInt_any (x y : Int) (w : World) :
    Calls Tryz.prog 52 #[.int .i64 x, .int .i64 y] w fun e w' => e = .returned (.int .i64 (Lib.compareInt x y)) ∧ w' = w := by
  go_enter Tryz.func52, Tryz.ntmps52
  go_wp2
  all_goals (go_ret; refine ⟨?_, rfl⟩; unfold Lib.compareInt; (repeat' split) <;> first | rfl | (exfalso; omega))
end Go.Proofs.YtjmapbaofpilaaaGreat
/- The walk of store's compare. -/
namespace Go.Proofs.YtjmapbaofpilaaaGreat
open Go.RowKit
/-- Blocks and draws may have come; nothing has turned. -/
def Laid (a b : World) : Prop := Below a.heap.size a b ∧ a.drawn ≤ b.drawn
theorem Laid.refl (a : World) : Laid a a := ⟨Below.refl _ _, Nat.le_refl _⟩
theorem Laid.trans {a b c : World} (h : Laid a b) (k : Laid b c) : Laid a c := ⟨h.1.trans (k.1.mono h.1.size), Nat.le_trans h.2 k.2⟩
theorem Laid.alloc (a : World) (o : Obj) : Laid a (a.alloc o) := ⟨one_new a o, Nat.le_refl _⟩
theorem Laid.drew (a : World) : Laid a a.drew := ⟨(Below.refl _ _).drew, Nat.le_succ _⟩
end Go.Proofs.YtjmapbaofpilaaaGreat
