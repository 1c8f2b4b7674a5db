import Derived.Test.YtkglgboncngpbaaGreatDoorPackAD
import Derived.Test.YtkglgboncngpbaaGreatDoorPackAC
import Derived.Laws.CopyRow
import Derived.LoopN
import Derived.Test.YtkglgboncngpbaaGreatDoorPackAB
import Derived.BigQuiet
/- The walk of chain.find, over statements that all count. -/
namespace Go.Proofs.YtkglgboncngpbaaGreatDoor
open Go.RowKit
set_option maxRecDepth 100000 in
set_option maxHeartbeats 2000000 in
theorem find_any (au : Int) (A : Option Addr) (n c : Nat) (l : List Stm) (w : World) (hl : SRow w A n c l) (hg : Good au l) (hn : n ≤ 1000) (hr : Rounds w) :
    Calls Tryz.prog 98 #[.int .i64 au, .slice A n c] w fun e w' => e = .returned (.map (some w.heap.size)) ∧ MapAt w' w.heap.size (l.map pairS) ∧ Below w.heap.size w w' := by
  have HL := Lib.hid hl; have HG := Lib.hid hg; have HLN := Lib.hid hl.len
  have HRR : Hid (∀ w', Below w.heap.size w w' → Rounds w') := Lib.hid fun w' h => hr.later h
  clear hl hg hr
  have hmk : ∀ w, (Instr.makeMap 123 none).run Tryz.prog w = .ok (.map (some w.heap.size)) (w.alloc (.map #[] 0)) := fun _ => by kernel_rfl
  go_enter Tryz.func98, Tryz.ntmps98
  go_wp2_with fail
  clear hmk
  go_loopw [11] (fun i wr => ∃ j : Nat, j ≤ n ∧ i = .int .i64 j ∧ Hid (MapAt wr w.heap.size ((l.take j).map pairS) ∧ Below w.heap.size w wr)) (fun i _ => n - (intOf i).toNat)
  case atStart => exact ⟨0, Nat.zero_le _, rfl, Lib.hid ⟨mapAt_new w, one_new w _⟩⟩
  case round =>
    obtain ⟨j, hj, rfl, HQ⟩ := hrel
    by_cases hlt : j < n
    · obtain ⟨b, off, hA, h0, h1, h2, h3, h4, h5, h6, h7, h8, h9, h10, h11, h12⟩ := SRow.cells (HL.out.later HQ.out.2) j hlt
      subst hA
      have hmem : l.getD j noStm ∈ l := by
        rw [List.getD_eq_getElem?_getD, List.getElem?_eq_getElem (by rw [HLN.out]; exact hlt)]
        exact List.getElem_mem _
      have HMM := Lib.hid hmem
      have HTK : Hid (l.take (j + 1) = l.take j ++ [l.getD j noStm]) := Lib.hid (by
        rw [List.take_add_one, List.getD_eq_getElem?_getD, List.getElem?_eq_getElem (by rw [HLN.out]; exact hlt)]; rfl)
      have HND : Hid (∀ p ∈ (l.take j).map pairS, p.1 ≠ (l.getD j noStm).dig) := Lib.hid (by
        intro p hp e
        have hd := HG.out.nodup
        have h2 : (l.take (j + 1)).map (·.dig) <+: l.map (·.dig) := (List.take_prefix _ _).map _
        have h3 := hd.sublist h2.sublist
        rw [HTK.out, List.map_append, List.nodup_append] at h3
        obtain ⟨q, hq, rfl⟩ := List.mem_map.1 hp
        exact h3.2.2 q.dig (List.mem_map_of_mem hq) (l.getD j noStm).dig (by simp) e)
      have HAU := Lib.hid (HG.out.author _ hmem); have HCK := Lib.hid (HG.out.check _ hmem); have HSE := Lib.hid (HG.out.sealed _ hmem); have HBA := Lib.hid (HG.out.bare _ hmem)
      clear hmem
      generalize l.getD j noStm = s at h0 h1 h2 h3 h4 h5 h6 h7 h8 h9 h10 h11 h12 HMM HTK HND HAU HCK HSE HBA
      have g0 : (s.author == au) = true := by simpa using HAU.out
      have HC1 : Hid (∀ x, Below w.heap.size w x → Calls Tryz.prog 53 #[stmV s none 0 0 none 0 0] x (SaysL (.int .i64 0) x)) := Lib.hid fun x h => by
        have := check_any s none 0 0 none 0 0 x (by rw [HBA.out.1]; exact Row.nilRow _ _) (by rw [HBA.out.2.1]; exact Row.nilRow _ _) (by omega) (by omega) (by have := HBA.out.2.2.1.body; omega)
        rw [HCK.out] at this; exact this
      have HC2 : Hid (∀ x, Below w.heap.size w x → Calls Tryz.prog 54 #[stmV s none 0 0 none 0 0] x (SaysL (.bool true) x)) := Lib.hid fun x h => by
        have := sealed_any s none 0 0 none 0 0 x (by rw [HBA.out.1]; exact Row.nilRow _ _) (by rw [HBA.out.2.1]; exact Row.nilRow _ _) HBA.out.2.2.1 (HRR.out x h)
        rw [HSE.out] at this; exact this
      unfold stmV at HC1 HC2
      go_wp2_with fail
      clear h0 h1 h2 h3 h4 h5 h6 h7 h8 h9 h10 h11 h12
      have hsz : w.heap.size < wr.heap.size := HQ.out.1.lt
      have HM : Hid (MapAt (wr.alloc (.cells #[.int .i64 s.author, .int .i64 s.number, .string s.prev, .int .i64 s.time, .int .i64 s.kind, .int .i64 s.a, .int .i64 s.b, .int .i64 s.c, .slice none 0 0, .slice none 0 0, .string s.body, .int .i64 s.key, .string s.dig] 27)) w.heap.size ((l.take j).map pairS)) := Lib.hid (HQ.out.1.later (one_new _ _))
      have HB := Lib.hid (HQ.out.2.trans ((one_new wr (.cells #[.int .i64 s.author, .int .i64 s.number, .string s.prev, .int .i64 s.time, .int .i64 s.kind, .int .i64 s.a, .int .i64 s.b, .int .i64 s.c, .slice none 0 0, .slice none 0 0, .string s.body, .int .i64 s.key, .string s.dig] 27)).mono HQ.out.2.size))
      have HX := Lib.hid (heap_alloc_new wr (.cells #[.int .i64 s.author, .int .i64 s.number, .string s.prev, .int .i64 s.time, .int .i64 s.kind, .int .i64 s.a, .int .i64 s.b, .int .i64 s.c, .slice none 0 0, .slice none 0 0, .string s.body, .int .i64 s.key, .string s.dig] 27))
      have HZ : Hid (wr.heap.size < (wr.alloc (.cells #[.int .i64 s.author, .int .i64 s.number, .string s.prev, .int .i64 s.time, .int .i64 s.kind, .int .i64 s.a, .int .i64 s.b, .int .i64 s.c, .slice none 0 0, .slice none 0 0, .string s.body, .int .i64 s.key, .string s.dig] 27)).heap.size) := Lib.hid (by simp)
      clear HQ
      generalize wr.alloc (.cells #[.int .i64 s.author, .int .i64 s.number, .string s.prev, .int .i64 s.time, .int .i64 s.kind, .int .i64 s.a, .int .i64 s.b, .int .i64 s.c, .slice none 0 0, .slice none 0 0, .string s.body, .int .i64 s.key, .string s.dig] 27) = y0 at HM HB HX HZ ⊢
      refine (HC1.out y0 HB.out).mono ?_
      clear HC1
      rintro e w1 ⟨rfl, hb⟩
      replace HX := Lib.hid ((hb.block _ HZ.out).trans HX.out); replace HM := Lib.hid (HM.out.later hb); replace HZ := Lib.hid (Nat.lt_of_lt_of_le HZ.out hb.size); replace HB := Lib.hid (HB.out.trans (hb.mono HB.out.size)); clear hb
      obtain ⟨hc0, hc1, hc2, hc3, hc4, hc5, hc6, hc7, hc8, hc9, hc10, hc11, hc12⟩ := stm_cells (A := none) (n := 0) (c := 0) (B := none) (m := 0) (k := 0) (s := s) HX.out
      go_wp2_with fail
      clear hc0 hc1 hc2 hc3 hc4 hc5 hc6 hc7 hc8 hc9 hc10 hc11 hc12
      refine (HC2.out w1 HB.out).mono ?_
      clear HC2
      rintro e w2 ⟨rfl, hb⟩
      replace HX := Lib.hid ((hb.block _ HZ.out).trans HX.out); replace HM := Lib.hid (HM.out.later hb); replace HB := Lib.hid (HB.out.trans (hb.mono HB.out.size)); clear hb HZ
      obtain ⟨hc0, hc1, hc2, hc3, hc4, hc5, hc6, hc7, hc8, hc9, hc10, hc11, hc12⟩ := stm_cells (A := none) (n := 0) (c := 0) (B := none) (m := 0) (k := 0) (s := s) HX.out
      obtain ⟨L, hL⟩ : ∃ L, L = (l.take j).map pairS := ⟨_, rfl⟩
      rw [← hL] at HM HND
      have HLL := Lib.hid hL; clear hL
      have hput := run_put (P := Tryz.prog) HM.out Tryz.underlying123 Tryz.underlying9 s.dig (.agg #[.int .i64 s.author, .int .i64 s.number, .string s.prev, .int .i64 s.time, .int .i64 s.kind, .int .i64 s.a, .int .i64 s.b, .int .i64 s.c, .slice none 0 0, .slice none 0 0, .string s.body, .int .i64 s.key, .string s.dig]) HND.out
      go_wp2_with fail
      refine ⟨⟨j + 1, hlt, by go_num, Lib.hid ⟨?_, HB.out.trans ((setBlock_but w2 w.heap.size _).below (Nat.le_refl _) HB.out.size)⟩⟩, by simp [intOf]; omega⟩
      rw [HTK.out, List.map_append, ← HLL.out]
      unfold MapAt
      rw [List.length_append]
      exact setBlock_at HM.out
    · have HE : Hid (j = n) := by unfold Hid; omega
      go_wp2
      go_ret
      have h := HQ.out.1
      rw [HE.out, List.take_of_length_le (by rw [HLN.out]; exact Nat.le_refl _)] at h
      exact ⟨rfl, h, HQ.out.2⟩
end Go.Proofs.YtkglgboncngpbaaGreatDoor
/- The walk of chain.Counted. -/
namespace Go.Proofs.YtkglgboncngpbaaGreatDoor
open Go.RowKit
def withNum (l : List Stm) (i : Nat) : List Stm := l.filter fun s => decide (s.number = (i : Int))
/-- The statement with number i goes on with the row. -/
def contNow (l row : List Stm) (i : Nat) : Bool := decide ((withNum l i).length = 1) && contB row ((withNum l i).headD noStm)
def countL (l : List Stm) : Nat → List Stm → Nat → List Stm
  | 0, row, _ => row
  | k + 1, row, i => if contNow l row i then countL l k (row ++ [(withNum l i).headD noStm]) (i + 1) else row
theorem countL_go (l row : List Stm) (j : Nat) (hj : j < 200) (h : contNow l row j = true) : countL l (200 - j) row j = countL l (200 - (j + 1)) (row ++ [(withNum l j).headD noStm]) (j + 1) := by
  rw [show 200 - j = (200 - (j + 1)) + 1 by omega, countL, if_pos h]
theorem countL_stop (l row : List Stm) (j : Nat) (hj : j < 200) (h : contNow l row j = false) : countL l (200 - j) row j = row := by
  rw [show 200 - j = (200 - (j + 1)) + 1 by omega, countL, if_neg (by rw [h]; decide)]
theorem one_of {α : Type} {z : List α} (h1 : z.length = 1) : ∃ a, z = [a] := by
  rcases z with _ | ⟨a, _ | ⟨b, r⟩⟩
  · simp at h1
  · exact ⟨a, rfl⟩
  · simp at h1
theorem split_dig {l : List Stm} (hd : (l.map (·.dig)).Nodup) {s : Stm} (hs : s ∈ l) : ∃ l1 l2, l.map pairS = l1 ++ (s.dig, stmV s none 0 0 none 0 0) :: l2 ∧ ∀ p ∈ l1, p.1 ≠ s.dig := by
  obtain ⟨a, b, rfl⟩ := List.append_of_mem hs
  refine ⟨a.map pairS, b.map pairS, by simp [pairS], fun p hp e => ?_⟩
  obtain ⟨q, hq, rfl⟩ := List.mem_map.1 hp
  rw [List.map_append, List.nodup_append] at hd
  exact hd.2.2 q.dig (List.mem_map_of_mem hq) s.dig (by simp) e
theorem own_lt {w : World} {B : Nat} {e : TypeId} {sz : Nat} {v : Value} {n : Nat} {xs : List Value} (h : w.ownsRow B e sz v n xs) : ∀ k, v.ownBlock = some k → k < w.heap.size := by
  intro k hk
  rcases h.2 with ⟨hn, _⟩ | ⟨a, cap, cur, rfl, ha, hgg, rest⟩
  · subst hn; cases hk
  · injection hk with hk
    subst hk
    exact (Array.getElem?_eq_some_iff.1 hgg).1
theorem stm_info : (Tryz.prog.info? 27).map (fun i => (i.zero, i.size, i.bytes)) = some (some (stmV noStm none 0 0 none 0 0), 13, 160) := by kernel_rfl
end Go.Proofs.YtkglgboncngpbaaGreatDoor
/- The walk of chain.Fork where there is a fork. -/
namespace Go.Proofs.YtkglgboncngpbaaGreatDoor
open Go.RowKit
theorem results_fork {tmps : Array Value} {w : World} {s : Nat} {cs : Array Value} {v : Value} (h2 : tmps.getD 4 undef = .pointer (some ⟨s, 0, none⟩)) (h3 : tmps.getD 5 undef = v)
    (hs : w.heap[s]? = some (.cells cs 29 (0, 0))) (hz : cs.size = 26) :
    (results Tryz.f66 tmps).run Tryz.prog w = .ok (.tuple #[.agg cs, v]) w := by
  have hr : Tryz.f66.results = #[.cell 4 29, .tmp 5] := rfl
  have h2' : tmps[4]?.getD undef = .pointer (some ⟨s, 0, none⟩) := by simpa using h2
  have h3' : tmps[5]?.getD undef = v := by simpa using h3
  have hl := run_loadVar_row (P := Tryz.prog) w s 29 29 cs (0, 0) _ hs Tryz.underlying29 rfl (by rw [hz]; kernel_rfl)
  unfold results
  rw [hr]
  simp [h2', h3', asAddr, hl]
def zF : Array Value := #[.int .i64 0, .int .i64 0, .string ⟨#[]⟩, .int .i64 0, .int .i64 0, .int .i64 0, .int .i64 0, .int .i64 0, .slice none 0 0, .slice none 0 0, .string ⟨#[]⟩, .int .i64 0, .string ⟨#[]⟩, .int .i64 0, .int .i64 0, .string ⟨#[]⟩, .int .i64 0, .int .i64 0, .int .i64 0, .int .i64 0, .int .i64 0, .slice none 0 0, .slice none 0 0, .string ⟨#[]⟩, .int .i64 0, .string ⟨#[]⟩]
theorem But.of_row (D : Nat) (w : World) (cs : Array Value) : But D w (w.setRow D cs) := ⟨rfl, rfl, rfl, (below_setRow (Below.refl D w) (Nat.le_refl _) cs).size, fun _ _ hne => setRow_other _ _ _ _ hne⟩
/-- Two statements as a fork. -/
def forkC (s t : Stm) : Array Value := #[.int .i64 s.author, .int .i64 s.number, .string s.prev, .int .i64 s.time, .int .i64 s.kind, .int .i64 s.a, .int .i64 s.b, .int .i64 s.c, .slice none 0 0, .slice none 0 0, .string s.body, .int .i64 s.key, .string s.dig, .int .i64 t.author, .int .i64 t.number, .string t.prev, .int .i64 t.time, .int .i64 t.kind, .int .i64 t.a, .int .i64 t.b, .int .i64 t.c, .slice none 0 0, .slice none 0 0, .string t.body, .int .i64 t.key, .string t.dig]
theorem twoOf {α : Type} {z : List α} (h1 : z.length = 2) : ∃ a b, z = [a, b] := by
  rcases z with _ | ⟨a, _ | ⟨b, _ | ⟨c, r⟩⟩⟩
  · simp at h1
  · simp at h1
  · exact ⟨a, b, rfl⟩
  · simp at h1
set_option maxRecDepth 100000 in
set_option maxHeartbeats 4000000 in
theorem fork_srt (au : Int) (A : Option Addr) (n c : Nat) (l : List Stm) (w : World) (hl : SRow w A n c l) (hg : Good au l) (hn : n ≤ 1000) (hr : Rounds w) (h2 : ∀ n : Nat, (l.filter fun s => decide (s.number = (n : Int))).length ≤ 2)
    (i0 : Nat) (hi0 : i0 < 200) (h0 : (withNum l i0).length = 2) (hlo : ∀ j, j < i0 → (withNum l j).length ≤ 1) :
    Calls Tryz.prog 66 #[.int .i64 au, .slice A n c] w fun e w' => ∃ s t, (s ∈ withNum l i0 ∧ t ∈ withNum l i0 ∧ Prm [s.dig, t.dig] ((withNum l i0).map (·.dig))) ∧ e = .returned (.tuple #[.agg (forkC s t), .bool true]) ∧ Below w.heap.size w w' := by
  obtain ⟨W0, hW⟩ : ∃ W, W = w.alloc (.cells zF 29) := ⟨_, rfl⟩
  have HB0 : Hid (Below w.heap.size w W0) := Lib.hid (by rw [hW]; exact one_new w _)
  have HX0 : Hid (W0.heap[w.heap.size]? = some (.cells zF 29 (0, 0))) := Lib.hid (by rw [hW]; exact heap_alloc_new _ _)
  have HZ0 : Hid (W0.heap.size = w.heap.size + 1) := Lib.hid (by rw [hW]; simp)
  have HFI := Lib.hid (find_any au A n c l W0 (hl.later HB0.out) hg hn (hr.later HB0.out))
  have HLN := Lib.hid hl.len; have HG := Lib.hid hg; have H2 := Lib.hid h2; have H0 := Lib.hid h0; have HLO := Lib.hid hlo
  clear hl hg hr h2 h0 hlo
  go_enter Tryz.func66, Tryz.ntmps66
  go_wp2_with fail
  unfold zF at hW
  first | rw [← hW] | (trace_state; fail)
  clear hW
  refine HFI.out.mono ?_
  rintro e w1 ⟨rfl, hm, hb⟩
  have HM := Lib.hid hm; have HB := Lib.hid hb
  clear hm hb HFI
  go_wp2_with fail
  refine (byNumber_any W0.heap.size l w1 HM.out (by rw [HLN.out]; exact hn) H2.out fun s hs => (HG.out.bare s hs).2.2.2).mono ?_
  rintro e w2 ⟨v, f, he, hb2, hrows⟩
  obtain ⟨cs, hcs⟩ : ∃ cs, cs = ((List.range 200).map v).toArray := ⟨_, rfl⟩
  rw [← hcs] at he
  subst he
  have HCS : Hid (∀ i, i < 200 → cs[i]? = some (v i)) := Lib.hid fun i hi => by rw [hcs]; exact slots_cell v i hi
  clear hcs
  have HR := Lib.hid hrows; have HB2 : Hid (Below W0.heap.size W0 w2) := Lib.hid (HB.out.trans (hb2.mono HB.out.size)); have HM2 := Lib.hid (HM.out.later hb2)
  have HB1 := HB
  clear hrows hb2 HM HB
  go_wp2_with fail
  go_loopw [14] (fun i wr => ∃ j : Nat, j ≤ i0 ∧ i = .int .i64 j ∧ Hid (Below w2.heap.size w2 wr)) (fun i _ => 200 - (intOf i).toNat)
  case atStart => exact ⟨0, by omega, rfl, Lib.hid (Below.refl _ _)⟩
  case round =>
    obtain ⟨j, hj, rfl, HQ⟩ := hrel
    have hlt : j < 200 := by omega
    obtain ⟨A4, k4, c4, hv4, hr4, hp4, ha4⟩ := HR.out j hlt
    have HA4 : Hid (∀ ad, A4 = some ad → w.heap.size < ad.block) := Lib.hid fun ad hA => by have h1 := ha4 ad hA; have h2 := HB1.out.size; have h3 := HZ0.out; omega
    have hidx := run_idx cs j hlt (.slice A4 k4 c4) (by rw [HCS.out j hlt, hv4])
    have HR4 := Lib.hid (hr4.later HQ.out); have HP4 := Lib.hid hp4
    have HK4 : Hid (k4 = (withNum l j).length) := Lib.hid (by
      have h1 := hr4.len
      rw [strsV, List.length_map, hp4.length_eq, List.length_map, Nat.mul_one] at h1
      exact h1.symm)
    clear hv4 hr4 hp4 ha4
    by_cases hji : j = i0
    · subst hji
      have hk2 : k4 = 2 := by rw [HK4.out, H0.out]
      subst hk2
      have hfl : (f j).length = 2 := by rw [HP4.out.length_eq, List.length_map]; exact H0.out
      obtain ⟨d1, d2, hfd⟩ := twoOf hfl
      have hm1 : d1 ∈ (withNum l j).map (·.dig) := HP4.out.subset (by rw [hfd]; simp)
      have hm2 : d2 ∈ (withNum l j).map (·.dig) := HP4.out.subset (by rw [hfd]; simp)
      obtain ⟨s, hs, hsd⟩ := List.mem_map.1 hm1
      obtain ⟨t, ht, htd⟩ := List.mem_map.1 hm2
      subst hsd htd
      obtain ⟨b4, off4, hA4, -⟩ := Row.form HR4.out (by omega)
      subst hA4
      have HC1 : Hid (∀ wd, Later wr wd → ∀ x, (fut (But w.heap.size) wd x).cell? ⟨b4, off4, none⟩ = some (.string s.dig)) := Lib.hid fun wd hd x => by
        have h3 := ((HR4.out.later hd).but (fut_ok (F := But w.heap.size) (But.refl _) wd x) (fun ad e _ => by have := HA4.out ad e; omega)).cell 0 (by omega)
        rw [hfd] at h3
        simpa [strsV] using h3
      have HC2 : Hid (∀ wd, Later wr wd → ∀ x, (fut (But w.heap.size) wd x).cell? ⟨b4, off4 + 1, none⟩ = some (.string t.dig)) := Lib.hid fun wd hd x => by
        have h3 := ((HR4.out.later hd).but (fut_ok (F := But w.heap.size) (But.refl _) wd x) (fun ad e _ => by have := HA4.out ad e; omega)).cell 1 (by omega)
        rw [hfd] at h3
        simpa [strsV] using h3
      have hsl : s ∈ l := (List.mem_filter.1 hs).1
      have htl : t ∈ l := (List.mem_filter.1 ht).1
      obtain ⟨l1, l2, hl12, hne⟩ := split_dig HG.out.nodup hsl
      obtain ⟨m1, m2, hm12, hne2⟩ := split_dig HG.out.nodup htl
      have HL1 : Hid (∀ wd, Later wr wd → ∀ x, (Instr.lookup 123 (.map (some W0.heap.size)) (.string s.dig) false).run Tryz.prog (fut (But w.heap.size) wd x) = .ok (stmV s none 0 0 none 0 0) (fut (But w.heap.size) wd x)) := Lib.hid fun wd hd x =>
        run_has (P := Tryz.prog) (by have h3 := (((HM2.out.later HQ.out).later hd).but (fut_ok (F := But w.heap.size) (But.refl _) wd x) (by have := HZ0.out; omega)); rw [hl12] at h3; exact h3) Tryz.underlying123 Tryz.underlying9 hne
      have HL2 : Hid (∀ wd, Later wr wd → ∀ x, (Instr.lookup 123 (.map (some W0.heap.size)) (.string t.dig) false).run Tryz.prog (fut (But w.heap.size) wd x) = .ok (stmV t none 0 0 none 0 0) (fut (But w.heap.size) wd x)) := Lib.hid fun wd hd x =>
        run_has (P := Tryz.prog) (by have h3 := (((HM2.out.later HQ.out).later hd).but (fut_ok (F := But w.heap.size) (But.refl _) wd x) (by have := HZ0.out; omega)); rw [hm12] at h3; exact h3) Tryz.underlying123 Tryz.underlying9 hne2
      have HST : Hid (s ∈ withNum l j ∧ t ∈ withNum l j ∧ Prm [s.dig, t.dig] ((withNum l j).map (·.dig))) := Lib.hid ⟨hs, ht, by have h := HP4.out; rw [hfd] at h; exact h⟩
      clear hfl hm1 hm2 hs ht hfd hsl htl hl12 hne hm12 hne2 HK4 HP4 HLO
      go_wp2_with fail
      refine wp_region_grow (by kernel_rfl) (But w.heap.size) (But.refl w.heap.size) (fun _ _ _ => But.trans) [12] [([0, 1, 2, 3, 4, 5, 6, 7, 8, 9], 10), ([], 11)] (by kernel_rfl) (by kernel_rfl) (by kernel_rfl) ?_
      simp only [List.map_cons, List.map_nil, pick, List.getD_cons_zero, List.getD_cons_succ]
      have HXd : Hid (wr.drew.heap[w.heap.size]? = some (.cells zF 29 (0, 0))) := Lib.hid ((HQ.out.block _ (by have := HB2.out.size; have := HZ0.out; omega)).trans ((HB2.out.block _ (by have := HZ0.out; omega)).trans HX0.out))
      have HBd : Hid (Below w.heap.size w wr.drew) := Lib.hid ((HB0.out.trans ((HB2.out.trans (HQ.out.mono HB2.out.size)).mono HB0.out.size)).drew)
      have HWD : Hid (Later wr wr.drew) := Lib.hid (Later.drew wr)
      generalize wr.drew = wd at HXd HBd HWD ⊢
      have hbut : ∀ x, But w.heap.size wd (fut (But w.heap.size) wd x) := fun x => fut_ok (But.refl _) wd x
      have hf1 : ∀ x, (fut (But w.heap.size) wd x).cell? ⟨b4, off4, none⟩ = some (.string s.dig) := fun x => HC1.out wd HWD.out x
      have hf2 : ∀ x, (fut (But w.heap.size) wd x).cell? ⟨b4, off4 + 1, none⟩ = some (.string t.dig) := fun x => HC2.out wd HWD.out x
      have hf3 := fun x => HL1.out wd HWD.out x
      have hf4 := fun x => HL2.out wd HWD.out x
      refine wpGrow_cons ?_
      unfold stmV at hf3 hf4
      repeat (go_big_quiet_step (fail))
      refine wpQuiet_nil ?_
      clear hf1 hf2 hf3 hf4
      go_wp2_with fail
      refine pieceEnd_normal ⟨But.refl _ _, ?_⟩
      refine wpGrow_cons ?_
      refine wpQuiet_nil ?_
      go_wp2_with (refine wpList_store_row rfl 29 (.tmp 4) (.tmp 30) rfl w.heap.size (forkC s t) rfl rfl 29 _ HXd.out (by kernel_rfl) rfl (by simp [Value.oneCell', forkC]) ?_)
      refine pieceEnd_normal ⟨?_, ?_⟩
      · exact But.of_row _ _ _
      refine wpGrow_nil ?_
      repeat (go_big_quiet_step (fail))
      refine wpQuiet_nil ?_
      go_wp2
      refine bodyPost_ret (results_fork rfl rfl (setRow_heap _ _ _ (forkC s t) _ _ HXd.out) rfl) rfl ⟨s, t, HST.out, rfl, below_setRow HBd.out (Nat.le_refl _) _⟩
    · have hk : k4 ≤ 1 := by rw [HK4.out]; exact HLO.out j (by omega)
      have hk2 : ¬ (1 : Int) < (k4 : Int) := by omega
      go_wp2_with fail
      exact ⟨⟨j + 1, by omega, by go_num, HQ⟩, by simp [intOf]; omega⟩
theorem fork_any (au : Int) (A : Option Addr) (n c : Nat) (l : List Stm) (w : World) (hl : SRow w A n c l) (hg : Good au l) (hn : n ≤ 1000) (hr : Rounds w) (h2 : ∀ n : Nat, (l.filter fun s => decide (s.number = (n : Int))).length ≤ 2)
    (i0 : Nat) (hi0 : i0 < 200) (h0 : (withNum l i0).length = 2) (hlo : ∀ j, j < i0 → (withNum l j).length ≤ 1) :
    Calls Tryz.prog 66 #[.int .i64 au, .slice A n c] w fun e w' => ∃ s t, s ∈ withNum l i0 ∧ t ∈ withNum l i0 ∧ e = .returned (.tuple #[.agg (forkC s t), .bool true]) ∧ Below w.heap.size w w' :=
  (fork_srt au A n c l w hl hg hn hr h2 i0 hi0 h0 hlo).mono fun _ _ ⟨s, t, h, he, hb⟩ => ⟨s, t, h.1, h.2.1, he, hb⟩
end Go.Proofs.YtkglgboncngpbaaGreatDoor
/- Statements in blocks of their own: stored and loaded whole. -/
namespace Go.Proofs.YtkglgboncngpbaaGreatDoor
open Go.RowKit
theorem modify_last {α : Type} (l : Array α) (o : α) (f : α → α) : (l.push o).modify l.size f = l.push (f o) := by
  apply Array.ext
  · simp
  · intro i h1 h2
    rw [Array.getElem_modify]
    by_cases h : l.size = i
    · subst h; simp
    · rw [if_neg h, Array.getElem_push_lt (by simp at h2; omega), Array.getElem_push_lt (by simp at h2; omega)]
theorem setRow_alloc (w : World) (old cells : Array Value) (t : TypeId) : (w.alloc (.cells old t)).setRow w.heap.size cells = w.alloc (.cells cells t) := by
  unfold World.setRow World.alloc
  rw [modify_last]
theorem wpList_store_new {P : Program} {ops : Array Oper} {rest : List Oper} {o : Oper} {a : Act} {w : World} {Q : Exit → Act → World → Prop} (hgd : o.guard = none) (ty : TypeId) (x y : Operand) (ho : o.op = .store ty x y)
    (t : TypeId) (old cells : Array Value) (hx : a.eval x = .pointer (some ⟨w.heap.size, 0, none⟩)) (hy : a.eval y = .agg cells) (hi : (P.info? ty).map (·.size) = some cells.size)
    (hold : old.size = cells.size) (h1 : cells.all (·.oneCell') = true) (h : wpList P ops Q rest (a.put o.dst undef) (w.alloc (.cells cells t))) : wpList P ops Q (o :: rest) a (w.alloc (.cells old t)) := by
  refine wpList_store_row hgd ty x y ho w.heap.size cells hx hy t old (heap_alloc_new _ _) hi hold h1 ?_
  rw [setRow_alloc]
  exact h
/-- A statement in a block of its own. -/
def BoxS (y : World) (B : Nat) (s : Stm) : Prop := y.heap[B]? = some (.cells #[.int .i64 s.author, .int .i64 s.number, .string s.prev, .int .i64 s.time, .int .i64 s.kind, .int .i64 s.a, .int .i64 s.b, .int .i64 s.c, .slice none 0 0, .slice none 0 0, .string s.body, .int .i64 s.key, .string s.dig] 27 (0, 0))
theorem BoxS.later {y z : World} {B : Nat} {s : Stm} (h : BoxS y B s) (hb : Below y.heap.size y z) : BoxS z B s := (hb.block _ (Array.getElem?_eq_some_iff.1 h).1).trans h
theorem BoxS.new (y : World) (s : Stm) : BoxS (y.alloc (.cells #[.int .i64 s.author, .int .i64 s.number, .string s.prev, .int .i64 s.time, .int .i64 s.kind, .int .i64 s.a, .int .i64 s.b, .int .i64 s.c, .slice none 0 0, .slice none 0 0, .string s.body, .int .i64 s.key, .string s.dig] 27)) y.heap.size s := heap_alloc_new _ _
theorem one_row (y : World) (a : Stm) : SRow (y.alloc (.cells #[.int .i64 a.author, .int .i64 a.number, .string a.prev, .int .i64 a.time, .int .i64 a.kind, .int .i64 a.a, .int .i64 a.b, .int .i64 a.c, .slice none 0 0, .slice none 0 0, .string a.body, .int .i64 a.key, .string a.dig] 27)) (some ⟨y.heap.size, 0, none⟩) 1 1 [a] := Row.of_block (heap_alloc_new _ _) rfl
end Go.Proofs.YtkglgboncngpbaaGreatDoor
/- Two statements in one block, loaded whole or by halves. -/
namespace Go.Proofs.YtkglgboncngpbaaGreatDoor
open Go.RowKit
/-- What a walk has to know of two statements' cells. -/
structure Two26 (SA TA VA : Array Value) : Prop where
  z1 : SA.size = 13
  z2 : TA.size = 13
  z3 : VA.size = 26
  o1 : SA.all (·.oneCell') = true
  o2 : TA.all (·.oneCell') = true
  o3 : VA.all (·.oneCell') = true
  i0 : ∀ w, (Instr.index 84 (.agg VA) (.int .i64 0)).run Tryz.prog w = .ok (.agg SA) w
  i1 : ∀ w, (Instr.index 84 (.agg VA) (.int .i64 1)).run Tryz.prog w = .ok (.agg TA) w
  c0 : ∀ j, j < 13 → VA[j]? = SA[j]?
  c1 : ∀ j, j < 13 → VA[13 + j]? = TA[j]?
  cat : VA = (SA.toList ++ TA.toList).toArray
  blt : Tryz.prog.built 29 [(0, .agg SA), (1, .agg TA)] = some VA
theorem Two26.iS {SA TA VA : Array Value} (h : Two26 SA TA VA) : (Tryz.prog.info? 27).map (·.size) = some SA.size := by rw [h.z1]; kernel_rfl
theorem Two26.iT {SA TA VA : Array Value} (h : Two26 SA TA VA) : (Tryz.prog.info? 27).map (·.size) = some TA.size := by rw [h.z2]; kernel_rfl
theorem Two26.iF {SA TA VA : Array Value} (h : Two26 SA TA VA) : (Tryz.prog.info? 29).map (·.size) = some VA.size := by rw [h.z3]; kernel_rfl
theorem Two26.iA {SA TA VA : Array Value} (h : Two26 SA TA VA) : (Tryz.prog.info? 84).map (·.size) = some VA.size := by rw [h.z3]; kernel_rfl
/-- The cells of two statements. -/
theorem two26 (s : Stm) (A : Option Addr) (n c : Nat) (B : Option Addr) (m k : Nat) (t : Stm) (A2 : Option Addr) (n2 c2 : Nat) (B2 : Option Addr) (m2 k2 : Nat) : ∃ SA TA VA, stmV s A n c B m k = .agg SA ∧ stmV t A2 n2 c2 B2 m2 k2 = .agg TA ∧ forkV s A n c B m k t A2 n2 c2 B2 m2 k2 = .agg VA ∧ Two26 SA TA VA := by
  refine ⟨_, _, _, rfl, rfl, rfl, rfl, rfl, rfl, by simp [Value.oneCell'], by simp [Value.oneCell'], by simp [Value.oneCell'], run_two0 s A n c B m k t A2 n2 c2 B2 m2 k2, run_two1 s A n c B m k t A2 n2 c2 B2 m2 k2, ?_, ?_, rfl, by kernel_rfl⟩
  all_goals
    intro j hj
    rcases j with _ | _ | _ | _ | _ | _ | _ | _ | _ | _ | _ | _ | _ | j
    all_goals first | rfl | omega
/-- Part of a block is loaded whole. -/
theorem run_loadVar_part {P : Program} (w : World) (g off : Nat) (t ty : TypeId) (cs part : Array Value) (fr : Nat × Nat) (d : TypeDesc) (hg : w.heap[g]? = some (.cells cs t fr))
    (hu : P.underlying ty = some d) (hd : (match d with | .struct _ | .array _ _ => true | _ => false) = true) (hi : (P.info? ty).map (·.size) = some part.size) (hp : ∀ j, j < part.size → cs[off + j]? = part[j]?) :
    (loadVar ty ⟨g, off, none⟩).run P w = .ok (.agg part) w := by
  have hl : (loadCells ⟨g, off, none⟩ part.toList.length).run P w = .ok part.toList.toArray w :=
    run_loadCells_list (P := P) w ⟨g, off, none⟩ part.toList (fun j v hv => by
      have hadd : (⟨g, off, none⟩ : Addr).add j = ⟨g, off + j, none⟩ := by unfold Addr.add; split <;> simp_all
      have hj : j < part.size := by
        rcases Nat.lt_or_ge j part.size with h | h
        · exact h
        · rw [List.getElem?_eq_none (by simpa using h)] at hv; cases hv
      rw [hadd, cell_of_row w g _ cs t fr hg, hp j hj]
      simpa using hv)
  cases hq : P.info? ty with
  | none => simp [hq] at hi
  | some i =>
    have hs : i.size = part.size := by simpa [hq] using hi
    have hagg : (isAgg ty).run P w = .ok true w := by
      unfold isAgg
      rw [Sem.run_bind, run_underlying hu w]
      cases d <;> simp_all
    simp only [Array.length_toList, Array.toArray_toList] at hl
    simp [loadVar, Sem.run_bind, hagg, sizeOf, typeInfo, hq, hs, hl]
theorem wpList_load_part {P : Program} {ops : Array Oper} {rest : List Oper} {o : Oper} {a : Act} {w : World} {Q : Exit → Act → World → Prop} (hgd : o.guard = none) (ty : TypeId) (x : Operand) (ho : o.op = .load ty x)
    (g off : Nat) (hx : a.eval x = .pointer (some ⟨g, off, none⟩)) (t : TypeId) (cs part : Array Value) (fr : Nat × Nat) (d : TypeDesc) (hg : w.heap[g]? = some (.cells cs t fr))
    (hu : P.underlying ty = some d) (hd : (match d with | .struct _ | .array _ _ => true | _ => false) = true) (hi : (P.info? ty).map (·.size) = some part.size) (hp : ∀ j, j < part.size → cs[off + j]? = part[j]?)
    (h : wpList P ops Q rest (a.put o.dst (.agg part)) w) : wpList P ops Q (o :: rest) a w :=
  wpList_plain hgd fun K hK => by
    unfold Oper.wp execOp
    simp only [ho, hx, Instr.loadAt, Instr.sureAddr, Sem.run_bind, Sem.run_pure, Result.andThen_ok, run_loadVar_part w g off t ty cs part fr d hg hu hd hi hp]
    exact hK _ _ h
/-- Part of a block is stored. -/
theorem wpList_store_part {P : Program} {ops : Array Oper} {rest : List Oper} {o : Oper} {a : Act} {w : World} {Q : Exit → Act → World → Prop} (hgd : o.guard = none) (ty : TypeId) (x y : Operand) (ho : o.op = .store ty x y)
    (g off : Nat) (cells : Array Value) (hx : a.eval x = .pointer (some ⟨g, off, none⟩)) (hy : a.eval y = .agg cells)
    (t : TypeId) (old : Array Value) (hg : w.heap[g]? = some (.cells old t (0, 0))) (hi : (P.info? ty).map (·.size) = some cells.size)
    (hold : off + cells.size ≤ old.size) (h1 : cells.all (·.oneCell') = true)
    (new : Array Value) (hnew : (old.toList.take off ++ cells.toList ++ old.toList.drop (off + cells.size)).toArray = new)
    (h : wpList P ops Q rest (a.put o.dst undef) (w.setRow g new)) : wpList P ops Q (o :: rest) a w :=
  wpList_plain hgd fun K hK => by
    subst hnew
    have h2 := run_storeCells_at (P := P) g off t cells.toList 0 old w hg (by simp; omega) (fun v hv => (Array.all_eq_true_iff_forall_mem.1 h1) v (by simpa using hv))
    rw [Nat.add_zero, Array.length_toList] at h2
    cases hq : P.info? ty with
    | none => simp [hq] at hi
    | some i =>
      have hs : cells.size = i.size := by simp [hq] at hi; omega
      unfold Oper.wp execOp
      simp only [ho, hx, hy, Instr.storeAt, Instr.sureAddr, Sem.run_bind, Sem.run_pure, Result.andThen_ok]
      simp [storeVar, sizeOf, typeInfo, hq, Value.cells, hs, Result.andThen] at h2 ⊢
      rw [h2]
      rw [hs, List.append_assoc] at h
      exact hK _ _ h
/-- A block is loaded whole, by an operation that is guarded. -/
theorem wpList_load_rowG {P : Program} {ops : Array Oper} {rest : List Oper} {o : Oper} {a : Act} {w : World} {Q : Exit → Act → World → Prop} (hw : Region.wanted o (yielded ops a.tmps) = true) (ty : TypeId) (x : Operand) (ho : o.op = .load ty x)
    (g : Nat) (hx : a.eval x = .pointer (some ⟨g, 0, none⟩)) (t : TypeId) (cs : Array Value) (fr : Nat × Nat) (d : TypeDesc) (hg : w.heap[g]? = some (.cells cs t fr))
    (hu : P.underlying ty = some d) (hd : (match d with | .struct _ | .array _ _ => true | _ => false) = true) (hi : (P.info? ty).map (·.size) = some cs.size)
    (h : wpList P ops Q rest (a.put o.dst (.agg cs)) w) : wpList P ops Q (o :: rest) a w :=
  wpList_want hw fun _ hK => wp_load_row ty x ho g hx t cs fr d hg hu hd hi (hK _ _ h)
/-- Part of a block, likewise. -/
theorem wpList_load_partG {P : Program} {ops : Array Oper} {rest : List Oper} {o : Oper} {a : Act} {w : World} {Q : Exit → Act → World → Prop} (hw : Region.wanted o (yielded ops a.tmps) = true) (ty : TypeId) (x : Operand) (ho : o.op = .load ty x)
    (g off : Nat) (hx : a.eval x = .pointer (some ⟨g, off, none⟩)) (t : TypeId) (cs part : Array Value) (fr : Nat × Nat) (d : TypeDesc) (hg : w.heap[g]? = some (.cells cs t fr))
    (hu : P.underlying ty = some d) (hd : (match d with | .struct _ | .array _ _ => true | _ => false) = true) (hi : (P.info? ty).map (·.size) = some part.size) (hp : ∀ j, j < part.size → cs[off + j]? = part[j]?)
    (h : wpList P ops Q rest (a.put o.dst (.agg part)) w) : wpList P ops Q (o :: rest) a w :=
  wpList_want hw fun K hK => by
    unfold Oper.wp execOp
    simp only [ho, hx, Instr.loadAt, Instr.sureAddr, Sem.run_bind, Sem.run_pure, Result.andThen_ok, run_loadVar_part w g off t ty cs part fr d hg hu hd hi hp]
    exact hK _ _ h
/-- One statement's cells. -/
theorem one13 (s : Stm) (A : Option Addr) (n c : Nat) (B : Option Addr) (m k : Nat) : ∃ SA, stmV s A n c B m k = .agg SA ∧ SA.size = 13 ∧ SA.all (·.oneCell') = true := ⟨_, rfl, rfl, by simp [Value.oneCell']⟩
/-- Both halves, stored one behind the other. -/
theorem halves {SA TA VA Z V : Array Value} (hz : Z.size = 26) (h : Two26 SA TA VA) (h1 : (Z.toList.take 0 ++ SA.toList ++ Z.toList.drop (0 + SA.size)).toArray = V) :
    V.size = 26 ∧ (V.toList.take 13 ++ TA.toList ++ V.toList.drop (13 + TA.size)).toArray = VA := by
  subst h1
  have h2 := h.z1
  have h3 : SA.toList.length = 13 := by simpa using h2
  have h4 : Z.toList.length = 26 := by simpa using hz
  refine ⟨by simp only [List.take_zero, List.nil_append, List.size_toArray, List.length_append, List.length_drop]; omega, ?_⟩
  rw [h.cat, h.z2, h2]
  simp only [List.take_zero, List.nil_append, Nat.zero_add]
  rw [List.take_append_of_le_length (by omega), List.take_of_length_le (by omega), List.drop_append, List.drop_eq_nil_of_le (by omega), List.nil_append, List.drop_drop, List.drop_eq_nil_of_le (by omega), List.append_nil]
end Go.Proofs.YtkglgboncngpbaaGreatDoor
/- The walk of fork.faces. -/
namespace Go.Proofs.YtkglgboncngpbaaGreatDoor
open Go.RowKit
set_option maxRecDepth 100000 in
set_option maxHeartbeats 4000000 in
theorem faces_any (s : Stm) (A : Option Addr) (n c : Nat) (B : Option Addr) (m k : Nat) (t : Stm) (A2 : Option Addr) (n2 c2 : Nat) (B2 : Option Addr) (m2 k2 : Nat) (w : World) : Calls Tryz.prog 52 #[forkV s A n c B m k t A2 n2 c2 B2 m2 k2] w (SaysL (forkV s A n c B m k t A2 n2 c2 B2 m2 k2) w) := by
  obtain ⟨x0, x1, x2, x3, x4, x5, x6, x7, x8, x9, x10, x11, x12⟩ := s
  obtain ⟨y0, y1, y2, y3, y4, y5, y6, y7, y8, y9, y10, y11, y12⟩ := t
  unfold forkV
  simp only
  have HX : Hid (((w.alloc (.cells #[.int .i64 x0, .int .i64 x1, .string x2, .int .i64 x3, .int .i64 x4, .int .i64 x5, .int .i64 x6, .int .i64 x7, .slice A n c, .slice B m k, .string x10, .int .i64 x11, .string x12, .int .i64 y0, .int .i64 y1, .string y2, .int .i64 y3, .int .i64 y4, .int .i64 y5, .int .i64 y6, .int .i64 y7, .slice A2 n2 c2, .slice B2 m2 k2, .string y10, .int .i64 y11, .string y12] 29)).alloc (.cells #[.int .i64 0, .int .i64 0, .string ⟨#[]⟩, .int .i64 0, .int .i64 0, .int .i64 0, .int .i64 0, .int .i64 0, .slice none 0 0, .slice none 0 0, .string ⟨#[]⟩, .int .i64 0, .string ⟨#[]⟩, .int .i64 0, .int .i64 0, .string ⟨#[]⟩, .int .i64 0, .int .i64 0, .int .i64 0, .int .i64 0, .int .i64 0, .slice none 0 0, .slice none 0 0, .string ⟨#[]⟩, .int .i64 0, .string ⟨#[]⟩] 84)).heap[w.heap.size]? = some (.cells #[.int .i64 x0, .int .i64 x1, .string x2, .int .i64 x3, .int .i64 x4, .int .i64 x5, .int .i64 x6, .int .i64 x7, .slice A n c, .slice B m k, .string x10, .int .i64 x11, .string x12, .int .i64 y0, .int .i64 y1, .string y2, .int .i64 y3, .int .i64 y4, .int .i64 y5, .int .i64 y6, .int .i64 y7, .slice A2 n2 c2, .slice B2 m2 k2, .string y10, .int .i64 y11, .string y12] 29 (0, 0))) := Lib.hid ((Below.heap_alloc _ _ _ (by simp)).trans (heap_alloc_new _ _))
  have HY : Hid (((w.alloc (.cells #[.int .i64 x0, .int .i64 x1, .string x2, .int .i64 x3, .int .i64 x4, .int .i64 x5, .int .i64 x6, .int .i64 x7, .slice A n c, .slice B m k, .string x10, .int .i64 x11, .string x12, .int .i64 y0, .int .i64 y1, .string y2, .int .i64 y3, .int .i64 y4, .int .i64 y5, .int .i64 y6, .int .i64 y7, .slice A2 n2 c2, .slice B2 m2 k2, .string y10, .int .i64 y11, .string y12] 29)).alloc (.cells #[.int .i64 0, .int .i64 0, .string ⟨#[]⟩, .int .i64 0, .int .i64 0, .int .i64 0, .int .i64 0, .int .i64 0, .slice none 0 0, .slice none 0 0, .string ⟨#[]⟩, .int .i64 0, .string ⟨#[]⟩, .int .i64 0, .int .i64 0, .string ⟨#[]⟩, .int .i64 0, .int .i64 0, .int .i64 0, .int .i64 0, .int .i64 0, .slice none 0 0, .slice none 0 0, .string ⟨#[]⟩, .int .i64 0, .string ⟨#[]⟩] 84)).heap[w.heap.size + 1]? = some (.cells #[.int .i64 0, .int .i64 0, .string ⟨#[]⟩, .int .i64 0, .int .i64 0, .int .i64 0, .int .i64 0, .int .i64 0, .slice none 0 0, .slice none 0 0, .string ⟨#[]⟩, .int .i64 0, .string ⟨#[]⟩, .int .i64 0, .int .i64 0, .string ⟨#[]⟩, .int .i64 0, .int .i64 0, .int .i64 0, .int .i64 0, .int .i64 0, .slice none 0 0, .slice none 0 0, .string ⟨#[]⟩, .int .i64 0, .string ⟨#[]⟩] 84 (0, 0))) := Lib.hid (heap_alloc2_new _ _ _)
  have HB : Hid (Below w.heap.size w ((w.alloc (.cells #[.int .i64 x0, .int .i64 x1, .string x2, .int .i64 x3, .int .i64 x4, .int .i64 x5, .int .i64 x6, .int .i64 x7, .slice A n c, .slice B m k, .string x10, .int .i64 x11, .string x12, .int .i64 y0, .int .i64 y1, .string y2, .int .i64 y3, .int .i64 y4, .int .i64 y5, .int .i64 y6, .int .i64 y7, .slice A2 n2 c2, .slice B2 m2 k2, .string y10, .int .i64 y11, .string y12] 29)).alloc (.cells #[.int .i64 0, .int .i64 0, .string ⟨#[]⟩, .int .i64 0, .int .i64 0, .int .i64 0, .int .i64 0, .int .i64 0, .slice none 0 0, .slice none 0 0, .string ⟨#[]⟩, .int .i64 0, .string ⟨#[]⟩, .int .i64 0, .int .i64 0, .string ⟨#[]⟩, .int .i64 0, .int .i64 0, .int .i64 0, .int .i64 0, .int .i64 0, .slice none 0 0, .slice none 0 0, .string ⟨#[]⟩, .int .i64 0, .string ⟨#[]⟩] 84))) := Lib.hid ((one_new w _).trans ((one_new _ _).mono (by simp)))
  go_enter Tryz.func52, Tryz.ntmps52
  obtain ⟨hc0, hc1, hc2, hc3, hc4, hc5, hc6, hc7, hc8, hc9, hc10, hc11, hc12, hc13, hc14, hc15, hc16, hc17, hc18, hc19, hc20, hc21, hc22, hc23, hc24, hc25⟩ := fork_cells (s := ⟨x0, x1, x2, x3, x4, x5, x6, x7, x8, x9, x10, x11, x12⟩) (t := ⟨y0, y1, y2, y3, y4, y5, y6, y7, y8, y9, y10, y11, y12⟩) HX.out
  go_wp2_with (refine wpList_store_row rfl 84 (.tmp 2) (.tmp 7) rfl (w.heap.size + 1) #[.int .i64 x0, .int .i64 x1, .string x2, .int .i64 x3, .int .i64 x4, .int .i64 x5, .int .i64 x6, .int .i64 x7, .slice A n c, .slice B m k, .string x10, .int .i64 x11, .string x12, .int .i64 y0, .int .i64 y1, .string y2, .int .i64 y3, .int .i64 y4, .int .i64 y5, .int .i64 y6, .int .i64 y7, .slice A2 n2 c2, .slice B2 m2 k2, .string y10, .int .i64 y11, .string y12] rfl rfl 84 _ HY.out (by kernel_rfl) rfl (by simp [Value.oneCell']) ?_)
  refine bodyPost_ret (v := .agg #[.int .i64 x0, .int .i64 x1, .string x2, .int .i64 x3, .int .i64 x4, .int .i64 x5, .int .i64 x6, .int .i64 x7, .slice A n c, .slice B m k, .string x10, .int .i64 x11, .string x12, .int .i64 y0, .int .i64 y1, .string y2, .int .i64 y3, .int .i64 y4, .int .i64 y5, .int .i64 y6, .int .i64 y7, .slice A2 n2 c2, .slice B2 m2 k2, .string y10, .int .i64 y11, .string y12]) (results_cell_row rfl _ _ (w.heap.size + 1) 84 #[.int .i64 x0, .int .i64 x1, .string x2, .int .i64 x3, .int .i64 x4, .int .i64 x5, .int .i64 x6, .int .i64 x7, .slice A n c, .slice B m k, .string x10, .int .i64 x11, .string x12, .int .i64 y0, .int .i64 y1, .string y2, .int .i64 y3, .int .i64 y4, .int .i64 y5, .int .i64 y6, .int .i64 y7, .slice A2 n2 c2, .slice B2 m2 k2, .string y10, .int .i64 y11, .string y12] (0, 0) _ rfl (setRow_heap _ _ _ #[.int .i64 x0, .int .i64 x1, .string x2, .int .i64 x3, .int .i64 x4, .int .i64 x5, .int .i64 x6, .int .i64 x7, .slice A n c, .slice B m k, .string x10, .int .i64 x11, .string x12, .int .i64 y0, .int .i64 y1, .string y2, .int .i64 y3, .int .i64 y4, .int .i64 y5, .int .i64 y6, .int .i64 y7, .slice A2 n2 c2, .slice B2 m2 k2, .string y10, .int .i64 y11, .string y12] _ _ HY.out) Tryz.underlying84 rfl (by kernel_rfl)) rfl ⟨rfl, below_setRow HB.out (by omega) _⟩
end Go.Proofs.YtkglgboncngpbaaGreatDoor
/- A region that draws its order: an operation that builds a value is taken as readers are. Plain facts over any program. -/
namespace Go.Proofs.YtkglgboncngpbaaGreatDoor
open Go.RowKit Go
def isVal (o : Oper) : Bool := isRead o || (match o.op with | .build .. => true | _ => false)
theorem val_value {P : Program} {o : Oper} (h : isVal o = true) {ρ : Operand → Value} {w w' : World} {n : Next} (hr : (execOp ρ o).run P w = .ok n w') : ∃ v, n = .value v := by
  unfold isVal at h
  rw [Bool.or_eq_true] at h
  rcases h with h | h
  · exact read_value h hr
  · obtain ⟨dst, op, t, pos, after, g⟩ := o
    cases op with
    | build t parts => exact run_v hr
    | _ => cases h
section
variable {P : Program} {md : Region.Mode} {F : World → World → Prop}
theorem val_yields {ops : Array Oper} {C : World → Prop} {o : Oper} {a : Act} {v : Value} (ho : isVal o = true) (hw : Region.wanted o (yielded ops a.tmps) = true) (h : ∀ w, C w → o.quietAt P a C w v) : YieldsIf P ops C o v a := by
  refine .inl ⟨hw, fun w hC => ?_⟩
  have h1 := h w hC
  unfold Oper.quietAt at h1
  cases hr : (execOp a.eval o).run P w with
  | halt x w' => rw [hr] at h1; exact h1.elim
  | ok n w' =>
    obtain ⟨u, rfl⟩ := val_value ho hr
    rw [hr] at h1
    obtain ⟨rfl, rfl⟩ := h1
    rfl
/-- A value is built, whatever else may come up. -/
theorem flow_val {l : List Oper} {Q : Exit → Act → World → Prop} (hr : ∀ w, F w w) (hs : Region.noSelect l.toArray = true) {fuel : Nat} (i : Nat) {listed : Array Bool} {a : Act} {w : World}
    (hB : ((Region.ready md l.toArray listed).contains i && Region.free md l.toArray listed i && isVal (pick l i) && decide (i < l.length)) = true)
    (h : wpQuiet P l.toArray (Futs F w) (fun a' => wpAnyH P md l.toArray (NoPanic Q) (Futs F w) fuel (listed.setIfInBounds i true) a' w) [pick l i] a) :
    wpAnyH P md l.toArray (NoPanic Q) (Futs F w) (fuel + 1) listed a w := by
  simp only [Bool.and_eq_true, decide_eq_true_eq] at hB
  obtain ⟨⟨⟨h1, h2⟩, h3⟩, h4⟩ := hB
  unfold wpQuiet at h
  split at h
  · rename_i hw
    obtain ⟨v, hv, hn⟩ := h
    exact wpAnyH_take (pick_at h4) hs h2 h1 (fun _ _ _ h => h) (val_yields h3 hw hv) (Futs.of (hr w)) hn
  · rename_i hw
    exact wpAnyH_take (pick_at h4) hs h2 h1 (fun _ _ _ h => h) (.inr ⟨by simpa using hw, rfl⟩) (Futs.of (hr w)) h
theorem flow_three {l : List Oper} {Q : Exit → Act → World → Prop} (ht : ∀ a b c, F a b → F b c → F a c) (hr : ∀ w, F w w) {fuel : Nat} (e1 e2 e3 : Nat) {listed : Array Bool} {a : Act} {w : World} (h2 : (Region.ready md l.toArray listed == [e1, e2, e3]) = true) (h3 : e1 < l.length) (h4 : e2 < l.length) (h5 : e3 < l.length)
    (h : wpList P l.toArray (pieceEnd fun a'' w' => F w w' ∧ wpAnyH P md l.toArray (NoPanic Q) (Futs F w') fuel (listed.setIfInBounds e1 true) a'' w') [pick l e1] a w)
    (h' : wpList P l.toArray (pieceEnd fun a'' w' => F w w' ∧ wpAnyH P md l.toArray (NoPanic Q) (Futs F w') fuel (listed.setIfInBounds e2 true) a'' w') [pick l e2] a w)
    (h'' : wpList P l.toArray (pieceEnd fun a'' w' => F w w' ∧ wpAnyH P md l.toArray (NoPanic Q) (Futs F w') fuel (listed.setIfInBounds e3 true) a'' w') [pick l e3] a w) :
    wpAnyH P md l.toArray (NoPanic Q) (Futs F w) (fuel + 1) listed a w :=
  flow_step ht hr [e1, e2, e3] h2 (by simp) (by simp [h3, h4, h5]) (fun i hi => by
    have : i = e1 ∨ i = e2 ∨ i = e3 := by simpa using hi
    rcases this with rfl | rfl | rfl
    · exact h
    · exact h'
    · exact h'')
end
end Go.Proofs.YtkglgboncngpbaaGreatDoor
/- The walk of fork.isTwoFaced. -/
namespace Go.Proofs.YtkglgboncngpbaaGreatDoor
open Go.RowKit
set_option maxRecDepth 100000 in
set_option maxHeartbeats 4000000 in
theorem twoFaced_any (s : Stm) (A : Option Addr) (n c : Nat) (B : Option Addr) (m k : Nat) (t : Stm) (A2 : Option Addr) (n2 c2 : Nat) (B2 : Option Addr) (m2 k2 : Nat) (w : World) : Calls Tryz.prog 55 #[forkV s A n c B m k t A2 n2 c2 B2 m2 k2] w (SaysL (.bool (twoB s t)) w) := by
  obtain ⟨x0, x1, x2, x3, x4, x5, x6, x7, x8, x9, x10, x11, x12⟩ := s
  obtain ⟨y0, y1, y2, y3, y4, y5, y6, y7, y8, y9, y10, y11, y12⟩ := t
  unfold forkV
  simp only
  have HX : Hid ((w.alloc (.cells #[.int .i64 x0, .int .i64 x1, .string x2, .int .i64 x3, .int .i64 x4, .int .i64 x5, .int .i64 x6, .int .i64 x7, .slice A n c, .slice B m k, .string x10, .int .i64 x11, .string x12, .int .i64 y0, .int .i64 y1, .string y2, .int .i64 y3, .int .i64 y4, .int .i64 y5, .int .i64 y6, .int .i64 y7, .slice A2 n2 c2, .slice B2 m2 k2, .string y10, .int .i64 y11, .string y12] 29)).heap[w.heap.size]? = some (.cells #[.int .i64 x0, .int .i64 x1, .string x2, .int .i64 x3, .int .i64 x4, .int .i64 x5, .int .i64 x6, .int .i64 x7, .slice A n c, .slice B m k, .string x10, .int .i64 x11, .string x12, .int .i64 y0, .int .i64 y1, .string y2, .int .i64 y3, .int .i64 y4, .int .i64 y5, .int .i64 y6, .int .i64 y7, .slice A2 n2 c2, .slice B2 m2 k2, .string y10, .int .i64 y11, .string y12] 29 (0, 0))) := Lib.hid (heap_alloc_new _ _)
  have HB0 : Hid (Below w.heap.size w (w.alloc (.cells #[.int .i64 x0, .int .i64 x1, .string x2, .int .i64 x3, .int .i64 x4, .int .i64 x5, .int .i64 x6, .int .i64 x7, .slice A n c, .slice B m k, .string x10, .int .i64 x11, .string x12, .int .i64 y0, .int .i64 y1, .string y2, .int .i64 y3, .int .i64 y4, .int .i64 y5, .int .i64 y6, .int .i64 y7, .slice A2 n2 c2, .slice B2 m2 k2, .string y10, .int .i64 y11, .string y12] 29))) := Lib.hid (one_new w _)
  have HN : Hid ((w.alloc (.cells #[.int .i64 x0, .int .i64 x1, .string x2, .int .i64 x3, .int .i64 x4, .int .i64 x5, .int .i64 x6, .int .i64 x7, .slice A n c, .slice B m k, .string x10, .int .i64 x11, .string x12, .int .i64 y0, .int .i64 y1, .string y2, .int .i64 y3, .int .i64 y4, .int .i64 y5, .int .i64 y6, .int .i64 y7, .slice A2 n2 c2, .slice B2 m2 k2, .string y10, .int .i64 y11, .string y12] 29)).heap.size = w.heap.size + 1) := Lib.hid (by simp)
  go_enter Tryz.func55, Tryz.ntmps55
  go_wp2_with fail
  refine wp_region_flow (by kernel_rfl) (fun a b => b.heap[w.heap.size]? = a.heap[w.heap.size]?) ?_
  replace HX : Hid ((w.alloc (.cells #[.int .i64 x0, .int .i64 x1, .string x2, .int .i64 x3, .int .i64 x4, .int .i64 x5, .int .i64 x6, .int .i64 x7, .slice A n c, .slice B m k, .string x10, .int .i64 x11, .string x12, .int .i64 y0, .int .i64 y1, .string y2, .int .i64 y3, .int .i64 y4, .int .i64 y5, .int .i64 y6, .int .i64 y7, .slice A2 n2 c2, .slice B2 m2 k2, .string y10, .int .i64 y11, .string y12] 29)).drew.heap[w.heap.size]? = some (.cells #[.int .i64 x0, .int .i64 x1, .string x2, .int .i64 x3, .int .i64 x4, .int .i64 x5, .int .i64 x6, .int .i64 x7, .slice A n c, .slice B m k, .string x10, .int .i64 x11, .string x12, .int .i64 y0, .int .i64 y1, .string y2, .int .i64 y3, .int .i64 y4, .int .i64 y5, .int .i64 y6, .int .i64 y7, .slice A2 n2 c2, .slice B2 m2 k2, .string y10, .int .i64 y11, .string y12] 29 (0, 0))) := HX
  replace HB0 := Lib.hid HB0.out.drew
  replace HN : Hid ((w.alloc (.cells #[.int .i64 x0, .int .i64 x1, .string x2, .int .i64 x3, .int .i64 x4, .int .i64 x5, .int .i64 x6, .int .i64 x7, .slice A n c, .slice B m k, .string x10, .int .i64 x11, .string x12, .int .i64 y0, .int .i64 y1, .string y2, .int .i64 y3, .int .i64 y4, .int .i64 y5, .int .i64 y6, .int .i64 y7, .slice A2 n2 c2, .slice B2 m2 k2, .string y10, .int .i64 y11, .string y12] 29)).drew.heap.size = w.heap.size + 1) := HN
  generalize (w.alloc (.cells #[.int .i64 x0, .int .i64 x1, .string x2, .int .i64 x3, .int .i64 x4, .int .i64 x5, .int .i64 x6, .int .i64 x7, .slice A n c, .slice B m k, .string x10, .int .i64 x11, .string x12, .int .i64 y0, .int .i64 y1, .string y2, .int .i64 y3, .int .i64 y4, .int .i64 y5, .int .i64 y6, .int .i64 y7, .slice A2 n2 c2, .slice B2 m2 k2, .string y10, .int .i64 y11, .string y12] 29)).drew = z0 at HX HB0 HN ⊢
  obtain ⟨hf0, hf1, hf2, hf3, hf4, hf5, hf6, hf7, hf8, hf9, hf10, hf11, hf12, hf13, hf14, hf15, hf16, hf17, hf18, hf19, hf20, hf21, hf22, hf23, hf24, hf25⟩ := fork_futs (F := (fun a b => b.heap[w.heap.size]? = a.heap[w.heap.size]?)) (fun _ => rfl) (s := ⟨x0, x1, x2, x3, x4, x5, x6, x7, x8, x9, x10, x11, x12⟩) (t := ⟨y0, y1, y2, y3, y4, y5, y6, y7, y8, y9, y10, y11, y12⟩) (W := z0) (fun _ h => h) HX.out
  refine flow_reads (F := (fun a b => b.heap[w.heap.size]? = a.heap[w.heap.size]?)) (fun _ => rfl) (by kernel_rfl) [0, 1, 2, 3] (fuel := 4) (by kernel_rfl) ?_
  simp only [List.map_cons, List.map_nil, pick, List.getD_cons_zero, List.getD_cons_succ]
  repeat (go_big_quiet_step (fail))
  refine wpQuiet_nil ?_
  clear hf0 hf1 hf2 hf3 hf4 hf5 hf6 hf7 hf8 hf9 hf10 hf11 hf12 hf13 hf14 hf15 hf16 hf17 hf18 hf19 hf20 hf21 hf22 hf23 hf24 hf25
  obtain ⟨n0, hn0⟩ : ∃ n, n = z0.heap.size := ⟨_, rfl⟩
  have HN0 : Hid (w.heap.size < n0) := Lib.hid (by rw [hn0, HN.out]; omega)
  have HW0 : Hid (w.heap.size < n0) := HN0
  have HBZ := Lib.hid HB0.out
  have HBW : ∀ {z : World}, Below n0 z0 z → Below w.heap.size w z := fun h => HBZ.out.trans (h.mono (by have := HN0.out; omega))
  have HN9 : ∀ {z : World}, Below n0 z0 z → n0 ≤ z.heap.size := fun h => by rw [hn0]; exact h.size
  have HB : Hid (Below n0 z0 z0) := Lib.hid (Below.refl _ _)
  clear HX HB0 HN
  refine flow_two (F := (fun a b => b.heap[w.heap.size]? = a.heap[w.heap.size]?)) (fun _ _ _ h k => k.trans h) (fun _ => rfl) 4 5 (by kernel_rfl) (by decide) (by decide) ?_ ?_ <;> simp only [pick, List.getD_cons_zero, List.getD_cons_succ]
  · go_wp2_with fail
    refine pieceEnd_normal ⟨(one_new z0 _).block _ (Nat.lt_of_lt_of_le HW0.out (HN9 HB.out)), ?_⟩
    obtain ⟨P3, hP3⟩ : ∃ P, P = z0.heap.size := ⟨_, rfl⟩
    try replace X4 := Lib.hid (((one_new z0 (.cells #[.int .i64 0, .int .i64 0, .string ⟨#[]⟩, .int .i64 0, .int .i64 0, .int .i64 0, .int .i64 0, .int .i64 0, .slice none 0 0, .slice none 0 0, .string ⟨#[]⟩, .int .i64 0, .string ⟨#[]⟩] 27)).block _ (Array.getElem?_eq_some_iff.1 X4.out).1).trans X4.out)
    have X3 : Hid ((z0.alloc (.cells #[.int .i64 0, .int .i64 0, .string ⟨#[]⟩, .int .i64 0, .int .i64 0, .int .i64 0, .int .i64 0, .int .i64 0, .slice none 0 0, .slice none 0 0, .string ⟨#[]⟩, .int .i64 0, .string ⟨#[]⟩] 27)).heap[P3]? = some (.cells #[.int .i64 0, .int .i64 0, .string ⟨#[]⟩, .int .i64 0, .int .i64 0, .int .i64 0, .int .i64 0, .int .i64 0, .slice none 0 0, .slice none 0 0, .string ⟨#[]⟩, .int .i64 0, .string ⟨#[]⟩] 27 (0, 0))) := Lib.hid (by rw [hP3]; exact heap_alloc_new _ _)
    have N3 : Hid (n0 ≤ P3) := Lib.hid (by rw [hP3]; exact HN9 HB.out)
    have XL : Hid (P3 < (z0.alloc (.cells #[.int .i64 0, .int .i64 0, .string ⟨#[]⟩, .int .i64 0, .int .i64 0, .int .i64 0, .int .i64 0, .int .i64 0, .slice none 0 0, .slice none 0 0, .string ⟨#[]⟩, .int .i64 0, .string ⟨#[]⟩] 27)).heap.size) := Lib.hid (by rw [hP3]; simp)
    replace HB : Hid (Below n0 z0 (z0.alloc (.cells #[.int .i64 0, .int .i64 0, .string ⟨#[]⟩, .int .i64 0, .int .i64 0, .int .i64 0, .int .i64 0, .int .i64 0, .slice none 0 0, .slice none 0 0, .string ⟨#[]⟩, .int .i64 0, .string ⟨#[]⟩] 27))) := Lib.hid (HB.out.trans ((one_new z0 _).mono (HN9 HB.out)))
    try rw [← hP3]
    clear hP3
    generalize z0.alloc (.cells #[.int .i64 0, .int .i64 0, .string ⟨#[]⟩, .int .i64 0, .int .i64 0, .int .i64 0, .int .i64 0, .int .i64 0, .slice none 0 0, .slice none 0 0, .string ⟨#[]⟩, .int .i64 0, .string ⟨#[]⟩] 27) = z1 at *
    refine flow_one (F := (fun a b => b.heap[w.heap.size]? = a.heap[w.heap.size]?)) (fun _ _ _ h k => k.trans h) (fun _ => rfl) 5 (by kernel_rfl) (by decide) ?_
    simp only [pick, List.getD_cons_zero, List.getD_cons_succ]
    go_wp2_with fail
    refine pieceEnd_normal ⟨(one_new z1 _).block _ (Nat.lt_of_lt_of_le HW0.out (HN9 HB.out)), ?_⟩
    obtain ⟨P4, hP4⟩ : ∃ P, P = z1.heap.size := ⟨_, rfl⟩
    try replace X3 := Lib.hid (((one_new z1 (.cells #[.int .i64 0, .int .i64 0, .string ⟨#[]⟩, .int .i64 0, .int .i64 0, .int .i64 0, .int .i64 0, .int .i64 0, .slice none 0 0, .slice none 0 0, .string ⟨#[]⟩, .int .i64 0, .string ⟨#[]⟩] 27)).block _ (Array.getElem?_eq_some_iff.1 X3.out).1).trans X3.out)
    have X4 : Hid ((z1.alloc (.cells #[.int .i64 0, .int .i64 0, .string ⟨#[]⟩, .int .i64 0, .int .i64 0, .int .i64 0, .int .i64 0, .int .i64 0, .slice none 0 0, .slice none 0 0, .string ⟨#[]⟩, .int .i64 0, .string ⟨#[]⟩] 27)).heap[P4]? = some (.cells #[.int .i64 0, .int .i64 0, .string ⟨#[]⟩, .int .i64 0, .int .i64 0, .int .i64 0, .int .i64 0, .int .i64 0, .slice none 0 0, .slice none 0 0, .string ⟨#[]⟩, .int .i64 0, .string ⟨#[]⟩] 27 (0, 0))) := Lib.hid (by rw [hP4]; exact heap_alloc_new _ _)
    have N4 : Hid (n0 ≤ P4) := Lib.hid (by rw [hP4]; exact HN9 HB.out)
    have NE : Hid (P3 ≠ P4) := Lib.hid (fun e => by have h1 := XL.out; rw [hP4] at e; omega)
    replace HB : Hid (Below n0 z0 (z1.alloc (.cells #[.int .i64 0, .int .i64 0, .string ⟨#[]⟩, .int .i64 0, .int .i64 0, .int .i64 0, .int .i64 0, .int .i64 0, .slice none 0 0, .slice none 0 0, .string ⟨#[]⟩, .int .i64 0, .string ⟨#[]⟩] 27))) := Lib.hid (HB.out.trans ((one_new z1 _).mono (HN9 HB.out)))
    try rw [← hP4]
    clear hP4
    generalize z1.alloc (.cells #[.int .i64 0, .int .i64 0, .string ⟨#[]⟩, .int .i64 0, .int .i64 0, .int .i64 0, .int .i64 0, .int .i64 0, .slice none 0 0, .slice none 0 0, .string ⟨#[]⟩, .int .i64 0, .string ⟨#[]⟩] 27) = z2 at *
    refine flow_one (F := (fun a b => b.heap[w.heap.size]? = a.heap[w.heap.size]?)) (fun _ _ _ h k => k.trans h) (fun _ => rfl) 6 (by kernel_rfl) (by decide) ?_
    simp only [pick, List.getD_cons_zero, List.getD_cons_succ]
    go_wp2_with (refine wpList_store_row rfl 27 (.tmp 3) (.tmp 6) rfl P3 #[.int .i64 x0, .int .i64 x1, .string x2, .int .i64 x3, .int .i64 x4, .int .i64 x5, .int .i64 x6, .int .i64 x7, .slice A n c, .slice B m k, .string x10, .int .i64 x11, .string x12] rfl rfl 27 _ X3.out (by kernel_rfl) rfl (by simp [Value.oneCell']) ?_)
    refine pieceEnd_normal ⟨setRow_other _ _ _ _ (by have h1 := N3.out; have h2 := HN0.out; omega), ?_⟩
    replace X4 := Lib.hid ((setRow_other z2 P3 P4 #[.int .i64 x0, .int .i64 x1, .string x2, .int .i64 x3, .int .i64 x4, .int .i64 x5, .int .i64 x6, .int .i64 x7, .slice A n c, .slice B m k, .string x10, .int .i64 x11, .string x12] (by have h1 := NE.out; omega)).trans X4.out)
    replace X3 := Lib.hid (setRow_heap z2 P3 _ #[.int .i64 x0, .int .i64 x1, .string x2, .int .i64 x3, .int .i64 x4, .int .i64 x5, .int .i64 x6, .int .i64 x7, .slice A n c, .slice B m k, .string x10, .int .i64 x11, .string x12] _ _ X3.out)
    replace HB : Hid (Below n0 z0 (z2.setRow P3 #[.int .i64 x0, .int .i64 x1, .string x2, .int .i64 x3, .int .i64 x4, .int .i64 x5, .int .i64 x6, .int .i64 x7, .slice A n c, .slice B m k, .string x10, .int .i64 x11, .string x12])) := Lib.hid (below_setRow HB.out N3.out _)
    generalize z2.setRow P3 #[.int .i64 x0, .int .i64 x1, .string x2, .int .i64 x3, .int .i64 x4, .int .i64 x5, .int .i64 x6, .int .i64 x7, .slice A n c, .slice B m k, .string x10, .int .i64 x11, .string x12] = z3 at *
    refine flow_one (F := (fun a b => b.heap[w.heap.size]? = a.heap[w.heap.size]?)) (fun _ _ _ h k => k.trans h) (fun _ => rfl) 7 (by kernel_rfl) (by decide) ?_
    simp only [pick, List.getD_cons_zero, List.getD_cons_succ]
    go_wp2_with (refine wpList_store_row rfl 27 (.tmp 4) (.tmp 8) rfl P4 #[.int .i64 y0, .int .i64 y1, .string y2, .int .i64 y3, .int .i64 y4, .int .i64 y5, .int .i64 y6, .int .i64 y7, .slice A2 n2 c2, .slice B2 m2 k2, .string y10, .int .i64 y11, .string y12] rfl rfl 27 _ X4.out (by kernel_rfl) rfl (by simp [Value.oneCell']) ?_)
    refine pieceEnd_normal ⟨setRow_other _ _ _ _ (by have h1 := N4.out; have h2 := HN0.out; omega), ?_⟩
    replace X3 := Lib.hid ((setRow_other z3 P4 P3 #[.int .i64 y0, .int .i64 y1, .string y2, .int .i64 y3, .int .i64 y4, .int .i64 y5, .int .i64 y6, .int .i64 y7, .slice A2 n2 c2, .slice B2 m2 k2, .string y10, .int .i64 y11, .string y12] (by have h1 := NE.out; omega)).trans X3.out)
    replace X4 := Lib.hid (setRow_heap z3 P4 _ #[.int .i64 y0, .int .i64 y1, .string y2, .int .i64 y3, .int .i64 y4, .int .i64 y5, .int .i64 y6, .int .i64 y7, .slice A2 n2 c2, .slice B2 m2 k2, .string y10, .int .i64 y11, .string y12] _ _ X4.out)
    replace HB : Hid (Below n0 z0 (z3.setRow P4 #[.int .i64 y0, .int .i64 y1, .string y2, .int .i64 y3, .int .i64 y4, .int .i64 y5, .int .i64 y6, .int .i64 y7, .slice A2 n2 c2, .slice B2 m2 k2, .string y10, .int .i64 y11, .string y12])) := Lib.hid (below_setRow HB.out N4.out _)
    generalize z3.setRow P4 #[.int .i64 y0, .int .i64 y1, .string y2, .int .i64 y3, .int .i64 y4, .int .i64 y5, .int .i64 y6, .int .i64 y7, .slice A2 n2 c2, .slice B2 m2 k2, .string y10, .int .i64 y11, .string y12] = z4 at *
    refine flow_done (by kernel_rfl) ?_
    obtain ⟨hc0, hc1, hc2, hc3, hc4, hc5, hc6, hc7, hc8, hc9, hc10, hc11, hc12⟩ := stm_cells (s := ⟨x0, x1, x2, x3, x4, x5, x6, x7, x8, x9, x10, x11, x12⟩) X3.out
    obtain ⟨hd0, hd1, hd2, hd3, hd4, hd5, hd6, hd7, hd8, hd9, hd10, hd11, hd12⟩ := stm_cells (s := ⟨y0, y1, y2, y3, y4, y5, y6, y7, y8, y9, y10, y11, y12⟩) X4.out
    by_cases e0 : x0 = y0
    · subst e0
      by_cases e1 : x1 = y1
      · subst e1
        generalize hbl : Op.bytesLess x12.toList y12.toList = bl
        go_wp2_with fail
        go_ret
        exact ⟨by simp [twoB, hbl], HBW HB.out⟩
      · have g1 : (x1 == y1) = false := by simpa using e1
        go_wp2_with fail
        go_ret
        exact ⟨by simp [twoB, e1], HBW HB.out⟩
    · have g0 : (x0 == y0) = false := by simpa using e0
      go_wp2_with fail
      go_ret
      exact ⟨by simp [twoB, e0], HBW HB.out⟩
  · go_wp2_with fail
    refine pieceEnd_normal ⟨(one_new z0 _).block _ (Nat.lt_of_lt_of_le HW0.out (HN9 HB.out)), ?_⟩
    obtain ⟨P4, hP4⟩ : ∃ P, P = z0.heap.size := ⟨_, rfl⟩
    try replace X3 := Lib.hid (((one_new z0 (.cells #[.int .i64 0, .int .i64 0, .string ⟨#[]⟩, .int .i64 0, .int .i64 0, .int .i64 0, .int .i64 0, .int .i64 0, .slice none 0 0, .slice none 0 0, .string ⟨#[]⟩, .int .i64 0, .string ⟨#[]⟩] 27)).block _ (Array.getElem?_eq_some_iff.1 X3.out).1).trans X3.out)
    have X4 : Hid ((z0.alloc (.cells #[.int .i64 0, .int .i64 0, .string ⟨#[]⟩, .int .i64 0, .int .i64 0, .int .i64 0, .int .i64 0, .int .i64 0, .slice none 0 0, .slice none 0 0, .string ⟨#[]⟩, .int .i64 0, .string ⟨#[]⟩] 27)).heap[P4]? = some (.cells #[.int .i64 0, .int .i64 0, .string ⟨#[]⟩, .int .i64 0, .int .i64 0, .int .i64 0, .int .i64 0, .int .i64 0, .slice none 0 0, .slice none 0 0, .string ⟨#[]⟩, .int .i64 0, .string ⟨#[]⟩] 27 (0, 0))) := Lib.hid (by rw [hP4]; exact heap_alloc_new _ _)
    have N4 : Hid (n0 ≤ P4) := Lib.hid (by rw [hP4]; exact HN9 HB.out)
    have XL : Hid (P4 < (z0.alloc (.cells #[.int .i64 0, .int .i64 0, .string ⟨#[]⟩, .int .i64 0, .int .i64 0, .int .i64 0, .int .i64 0, .int .i64 0, .slice none 0 0, .slice none 0 0, .string ⟨#[]⟩, .int .i64 0, .string ⟨#[]⟩] 27)).heap.size) := Lib.hid (by rw [hP4]; simp)
    replace HB : Hid (Below n0 z0 (z0.alloc (.cells #[.int .i64 0, .int .i64 0, .string ⟨#[]⟩, .int .i64 0, .int .i64 0, .int .i64 0, .int .i64 0, .int .i64 0, .slice none 0 0, .slice none 0 0, .string ⟨#[]⟩, .int .i64 0, .string ⟨#[]⟩] 27))) := Lib.hid (HB.out.trans ((one_new z0 _).mono (HN9 HB.out)))
    try rw [← hP4]
    clear hP4
    generalize z0.alloc (.cells #[.int .i64 0, .int .i64 0, .string ⟨#[]⟩, .int .i64 0, .int .i64 0, .int .i64 0, .int .i64 0, .int .i64 0, .slice none 0 0, .slice none 0 0, .string ⟨#[]⟩, .int .i64 0, .string ⟨#[]⟩] 27) = z5 at *
    refine flow_one (F := (fun a b => b.heap[w.heap.size]? = a.heap[w.heap.size]?)) (fun _ _ _ h k => k.trans h) (fun _ => rfl) 4 (by kernel_rfl) (by decide) ?_
    simp only [pick, List.getD_cons_zero, List.getD_cons_succ]
    go_wp2_with fail
    refine pieceEnd_normal ⟨(one_new z5 _).block _ (Nat.lt_of_lt_of_le HW0.out (HN9 HB.out)), ?_⟩
    obtain ⟨P3, hP3⟩ : ∃ P, P = z5.heap.size := ⟨_, rfl⟩
    try replace X4 := Lib.hid (((one_new z5 (.cells #[.int .i64 0, .int .i64 0, .string ⟨#[]⟩, .int .i64 0, .int .i64 0, .int .i64 0, .int .i64 0, .int .i64 0, .slice none 0 0, .slice none 0 0, .string ⟨#[]⟩, .int .i64 0, .string ⟨#[]⟩] 27)).block _ (Array.getElem?_eq_some_iff.1 X4.out).1).trans X4.out)
    have X3 : Hid ((z5.alloc (.cells #[.int .i64 0, .int .i64 0, .string ⟨#[]⟩, .int .i64 0, .int .i64 0, .int .i64 0, .int .i64 0, .int .i64 0, .slice none 0 0, .slice none 0 0, .string ⟨#[]⟩, .int .i64 0, .string ⟨#[]⟩] 27)).heap[P3]? = some (.cells #[.int .i64 0, .int .i64 0, .string ⟨#[]⟩, .int .i64 0, .int .i64 0, .int .i64 0, .int .i64 0, .int .i64 0, .slice none 0 0, .slice none 0 0, .string ⟨#[]⟩, .int .i64 0, .string ⟨#[]⟩] 27 (0, 0))) := Lib.hid (by rw [hP3]; exact heap_alloc_new _ _)
    have N3 : Hid (n0 ≤ P3) := Lib.hid (by rw [hP3]; exact HN9 HB.out)
    have NE : Hid (P3 ≠ P4) := Lib.hid (fun e => by have h1 := XL.out; rw [hP3] at e; omega)
    replace HB : Hid (Below n0 z0 (z5.alloc (.cells #[.int .i64 0, .int .i64 0, .string ⟨#[]⟩, .int .i64 0, .int .i64 0, .int .i64 0, .int .i64 0, .int .i64 0, .slice none 0 0, .slice none 0 0, .string ⟨#[]⟩, .int .i64 0, .string ⟨#[]⟩] 27))) := Lib.hid (HB.out.trans ((one_new z5 _).mono (HN9 HB.out)))
    try rw [← hP3]
    clear hP3
    generalize z5.alloc (.cells #[.int .i64 0, .int .i64 0, .string ⟨#[]⟩, .int .i64 0, .int .i64 0, .int .i64 0, .int .i64 0, .int .i64 0, .slice none 0 0, .slice none 0 0, .string ⟨#[]⟩, .int .i64 0, .string ⟨#[]⟩] 27) = z6 at *
    refine flow_one (F := (fun a b => b.heap[w.heap.size]? = a.heap[w.heap.size]?)) (fun _ _ _ h k => k.trans h) (fun _ => rfl) 6 (by kernel_rfl) (by decide) ?_
    simp only [pick, List.getD_cons_zero, List.getD_cons_succ]
    go_wp2_with (refine wpList_store_row rfl 27 (.tmp 3) (.tmp 6) rfl P3 #[.int .i64 x0, .int .i64 x1, .string x2, .int .i64 x3, .int .i64 x4, .int .i64 x5, .int .i64 x6, .int .i64 x7, .slice A n c, .slice B m k, .string x10, .int .i64 x11, .string x12] rfl rfl 27 _ X3.out (by kernel_rfl) rfl (by simp [Value.oneCell']) ?_)
    refine pieceEnd_normal ⟨setRow_other _ _ _ _ (by have h1 := N3.out; have h2 := HN0.out; omega), ?_⟩
    replace X4 := Lib.hid ((setRow_other z6 P3 P4 #[.int .i64 x0, .int .i64 x1, .string x2, .int .i64 x3, .int .i64 x4, .int .i64 x5, .int .i64 x6, .int .i64 x7, .slice A n c, .slice B m k, .string x10, .int .i64 x11, .string x12] (by have h1 := NE.out; omega)).trans X4.out)
    replace X3 := Lib.hid (setRow_heap z6 P3 _ #[.int .i64 x0, .int .i64 x1, .string x2, .int .i64 x3, .int .i64 x4, .int .i64 x5, .int .i64 x6, .int .i64 x7, .slice A n c, .slice B m k, .string x10, .int .i64 x11, .string x12] _ _ X3.out)
    replace HB : Hid (Below n0 z0 (z6.setRow P3 #[.int .i64 x0, .int .i64 x1, .string x2, .int .i64 x3, .int .i64 x4, .int .i64 x5, .int .i64 x6, .int .i64 x7, .slice A n c, .slice B m k, .string x10, .int .i64 x11, .string x12])) := Lib.hid (below_setRow HB.out N3.out _)
    generalize z6.setRow P3 #[.int .i64 x0, .int .i64 x1, .string x2, .int .i64 x3, .int .i64 x4, .int .i64 x5, .int .i64 x6, .int .i64 x7, .slice A n c, .slice B m k, .string x10, .int .i64 x11, .string x12] = z7 at *
    refine flow_one (F := (fun a b => b.heap[w.heap.size]? = a.heap[w.heap.size]?)) (fun _ _ _ h k => k.trans h) (fun _ => rfl) 7 (by kernel_rfl) (by decide) ?_
    simp only [pick, List.getD_cons_zero, List.getD_cons_succ]
    go_wp2_with (refine wpList_store_row rfl 27 (.tmp 4) (.tmp 8) rfl P4 #[.int .i64 y0, .int .i64 y1, .string y2, .int .i64 y3, .int .i64 y4, .int .i64 y5, .int .i64 y6, .int .i64 y7, .slice A2 n2 c2, .slice B2 m2 k2, .string y10, .int .i64 y11, .string y12] rfl rfl 27 _ X4.out (by kernel_rfl) rfl (by simp [Value.oneCell']) ?_)
    refine pieceEnd_normal ⟨setRow_other _ _ _ _ (by have h1 := N4.out; have h2 := HN0.out; omega), ?_⟩
    replace X3 := Lib.hid ((setRow_other z7 P4 P3 #[.int .i64 y0, .int .i64 y1, .string y2, .int .i64 y3, .int .i64 y4, .int .i64 y5, .int .i64 y6, .int .i64 y7, .slice A2 n2 c2, .slice B2 m2 k2, .string y10, .int .i64 y11, .string y12] (by have h1 := NE.out; omega)).trans X3.out)
    replace X4 := Lib.hid (setRow_heap z7 P4 _ #[.int .i64 y0, .int .i64 y1, .string y2, .int .i64 y3, .int .i64 y4, .int .i64 y5, .int .i64 y6, .int .i64 y7, .slice A2 n2 c2, .slice B2 m2 k2, .string y10, .int .i64 y11, .string y12] _ _ X4.out)
    replace HB : Hid (Below n0 z0 (z7.setRow P4 #[.int .i64 y0, .int .i64 y1, .string y2, .int .i64 y3, .int .i64 y4, .int .i64 y5, .int .i64 y6, .int .i64 y7, .slice A2 n2 c2, .slice B2 m2 k2, .string y10, .int .i64 y11, .string y12])) := Lib.hid (below_setRow HB.out N4.out _)
    generalize z7.setRow P4 #[.int .i64 y0, .int .i64 y1, .string y2, .int .i64 y3, .int .i64 y4, .int .i64 y5, .int .i64 y6, .int .i64 y7, .slice A2 n2 c2, .slice B2 m2 k2, .string y10, .int .i64 y11, .string y12] = z8 at *
    refine flow_done (by kernel_rfl) ?_
    obtain ⟨hc0, hc1, hc2, hc3, hc4, hc5, hc6, hc7, hc8, hc9, hc10, hc11, hc12⟩ := stm_cells (s := ⟨x0, x1, x2, x3, x4, x5, x6, x7, x8, x9, x10, x11, x12⟩) X3.out
    obtain ⟨hd0, hd1, hd2, hd3, hd4, hd5, hd6, hd7, hd8, hd9, hd10, hd11, hd12⟩ := stm_cells (s := ⟨y0, y1, y2, y3, y4, y5, y6, y7, y8, y9, y10, y11, y12⟩) X4.out
    by_cases e0 : x0 = y0
    · subst e0
      by_cases e1 : x1 = y1
      · subst e1
        generalize hbl : Op.bytesLess x12.toList y12.toList = bl
        go_wp2_with fail
        go_ret
        exact ⟨by simp [twoB, hbl], HBW HB.out⟩
      · have g1 : (x1 == y1) = false := by simpa using e1
        go_wp2_with fail
        go_ret
        exact ⟨by simp [twoB, e1], HBW HB.out⟩
    · have g0 : (x0 == y0) = false := by simpa using e0
      go_wp2_with fail
      go_ret
      exact ⟨by simp [twoB, e0], HBW HB.out⟩
end Go.Proofs.YtkglgboncngpbaaGreatDoor
/- The walk of fork.Check. -/
namespace Go.Proofs.YtkglgboncngpbaaGreatDoor
open Go.RowKit
set_option maxRecDepth 100000 in
set_option maxHeartbeats 4000000 in
theorem fkCheck_any (s : Stm) (A : Option Addr) (n c : Nat) (B : Option Addr) (m k : Nat) (t : Stm) (A2 : Option Addr) (n2 c2 : Nat) (B2 : Option Addr) (m2 k2 : Nat) (w : World) (hl : IRow w A n c s.list) (hp : PRow w B m k s.pins) (hl2 : IRow w A2 n2 c2 t.list) (hp2 : PRow w B2 m2 k2 t.pins) (hs : Small s) (ht : Small t) (hr : Rounds w) :
    Calls Tryz.prog 30 #[forkV s A n c B m k t A2 n2 c2 B2 m2 k2] w (SaysL (.int .i64 (checkF s t)) w) := by
  have HC1 : Hid (∀ w', Below w.heap.size w w' → Calls Tryz.prog 53 #[stmV s A n c B m k] w' (SaysL (.int .i64 (checkV s)) w')) := Lib.hid fun w' h => check_any s A n c B m k w' (hl.later h) (hp.later h) (by have := hl.len; have := hs.list; omega) (by have := hp.len; have := hs.pins; omega) (by have := hs.body; omega)
  have HC2 : Hid (∀ w', Below w.heap.size w w' → Calls Tryz.prog 53 #[stmV t A2 n2 c2 B2 m2 k2] w' (SaysL (.int .i64 (checkV t)) w')) := Lib.hid fun w' h => check_any t A2 n2 c2 B2 m2 k2 w' (hl2.later h) (hp2.later h) (by have := hl2.len; have := ht.list; omega) (by have := hp2.len; have := ht.pins; omega) (by have := ht.body; omega)
  have HS1 : Hid (∀ w', Below w.heap.size w w' → Calls Tryz.prog 54 #[stmV s A n c B m k] w' (SaysL (.bool (sealedB s)) w')) := Lib.hid fun w' h => sealed_any s A n c B m k w' (hl.later h) (hp.later h) hs (hr.later h)
  have HS2 : Hid (∀ w', Below w.heap.size w w' → Calls Tryz.prog 54 #[stmV t A2 n2 c2 B2 m2 k2] w' (SaysL (.bool (sealedB t)) w')) := Lib.hid fun w' h => sealed_any t A2 n2 c2 B2 m2 k2 w' (hl2.later h) (hp2.later h) ht (hr.later h)
  have HFA : Hid (∀ w', Calls Tryz.prog 52 #[forkV s A n c B m k t A2 n2 c2 B2 m2 k2] w' (SaysL (forkV s A n c B m k t A2 n2 c2 B2 m2 k2) w')) := Lib.hid fun w' => faces_any s A n c B m k t A2 n2 c2 B2 m2 k2 w'
  have HTF : Hid (∀ w', Calls Tryz.prog 55 #[forkV s A n c B m k t A2 n2 c2 B2 m2 k2] w' (SaysL (.bool (twoB s t)) w')) := Lib.hid fun w' => twoFaced_any s A n c B m k t A2 n2 c2 B2 m2 k2 w'
  obtain ⟨SA, TA, VA, eS, eT, eV, h26⟩ := two26 s A n c B m k t A2 n2 c2 B2 m2 k2
  rw [eS] at HC1 HS1
  rw [eT] at HC2 HS2
  rw [eV] at HFA HTF ⊢
  have H26 := Lib.hid h26
  have HI0 := Lib.hid h26.i0; have HI1 := Lib.hid h26.i1
  clear eS eT eV hl hp hl2 hp2 hs ht hr h26
  have HCF : Hid (checkF s t = if checkV s = 0 then (if checkV t = 0 then (if sealedB s = true then (if sealedB t = true then (if twoB s t = true then 0 else 12) else 6) else 6) else checkV t) else checkV s) := Lib.hid rfl
  generalize checkF s t = E at HCF ⊢
  generalize checkV s = cs at HCF HC1
  generalize checkV t = ct at HCF HC2
  generalize sealedB s = ss at HCF HS1
  generalize sealedB t = st at HCF HS2
  generalize twoB s t = tf at HCF HTF
  have HX : Hid ((w.alloc (.cells VA 29)).heap[w.heap.size]? = some (.cells VA 29 (0, 0))) := Lib.hid (heap_alloc_new _ _)
  have HB : Hid (Below w.heap.size w (w.alloc (.cells VA 29))) := Lib.hid (one_new w _)
  have HZ : Hid (w.heap.size < (w.alloc (.cells VA 29)).heap.size) := Lib.hid (by simp)
  go_enter Tryz.func30, Tryz.ntmps30
  go_wp2_with (refine wpList_load_row rfl 29 (.tmp 1) rfl w.heap.size rfl 29 VA (0, 0) _ HX.out Tryz.underlying29 rfl H26.out.iF ?_)
  refine (HFA.out _).mono ?_
  rintro e w1 ⟨rfl, hb⟩
  replace HX := Lib.hid ((hb.block _ HZ.out).trans HX.out); replace HB := Lib.hid (HB.out.trans (hb.mono HB.out.size)); replace HZ : Hid (w.heap.size < w1.heap.size) := Lib.hid (Nat.lt_of_lt_of_le HZ.out hb.size)
  clear hb
  have HG : Hid (w1.heap.size < (w1.alloc (.cells VA 84)).heap.size) := Lib.hid (by simp)
  have HA : Hid ((w1.alloc (.cells VA 84)).heap[w1.heap.size]? = some (.cells VA 84 (0, 0))) := Lib.hid (heap_alloc_new _ _)
  have hn := one_new w1 (.cells VA 84)
  replace HX := Lib.hid ((hn.block _ HZ.out).trans HX.out); replace HB := Lib.hid (HB.out.trans (hn.mono HB.out.size)); replace HZ : Hid (w.heap.size < (w1.alloc (.cells VA 84)).heap.size) := Lib.hid (Nat.lt_of_lt_of_le HZ.out hn.size)
  clear hn
  go_wp2_with (first | (refine wpList_store_new rfl 84 (.tmp 3) (.tmp 10) rfl 84 _ VA rfl rfl H26.out.iA (by rw [H26.out.z3]; rfl) H26.out.o3 ?_) | (refine wpList_load_row rfl 84 (.tmp 3) rfl w1.heap.size rfl 84 VA (0, 0) _ (heap_alloc_new _ _) Tryz.underlying84 rfl H26.out.iA ?_))
  generalize (w1.alloc (.cells VA 84)) = y1 at *
  refine wp_loop_rounds 3 ?_
  rw [rounds_succ]
  have hi := HI0.out
  go_wp2_with (first | (refine wpList_store_new rfl 27 (.tmp 5) (.tmp 14) rfl 27 _ SA rfl rfl H26.out.iS (by rw [H26.out.z1]; rfl) H26.out.o1 ?_) | (refine wpList_load_row rfl 27 (.tmp 5) rfl y1.heap.size rfl 27 SA (0, 0) _ (heap_alloc_new _ _) Tryz.underlying27 rfl H26.out.iS ?_))
  clear hi
  have hn := one_new y1 (.cells SA 27)
  replace HX := Lib.hid ((hn.block _ HZ.out).trans HX.out); replace HB := Lib.hid (HB.out.trans (hn.mono HB.out.size)); replace HZ : Hid (w.heap.size < (y1.alloc (.cells SA 27)).heap.size) := Lib.hid (Nat.lt_of_lt_of_le HZ.out hn.size)
  replace HA := Lib.hid ((hn.block _ HG.out).trans HA.out); replace HG : Hid (w1.heap.size < (y1.alloc (.cells SA 27)).heap.size) := Lib.hid (Nat.lt_of_lt_of_le HG.out hn.size)
  clear hn
  generalize y1.alloc (.cells SA 27) = y2 at *
  refine (HC1.out _ HB.out).mono ?_
  rintro e w2 ⟨rfl, hb⟩
  replace HX := Lib.hid ((hb.block _ HZ.out).trans HX.out); replace HB := Lib.hid (HB.out.trans (hb.mono HB.out.size)); replace HZ : Hid (w.heap.size < w2.heap.size) := Lib.hid (Nat.lt_of_lt_of_le HZ.out hb.size)
  replace HA := Lib.hid ((hb.block _ HG.out).trans HA.out); replace HG : Hid (w1.heap.size < w2.heap.size) := Lib.hid (Nat.lt_of_lt_of_le HG.out hb.size)
  clear hb
  by_cases h0 : cs = 0
  · subst h0
    go_wp2_with fail
    rw [rounds_succ]
    have hi := HI1.out
    go_wp2_with (first | (refine wpList_store_new rfl 27 (.tmp 5) (.tmp 14) rfl 27 _ TA rfl rfl H26.out.iT (by rw [H26.out.z2]; rfl) H26.out.o2 ?_) | (refine wpList_load_row rfl 27 (.tmp 5) rfl w2.heap.size rfl 27 TA (0, 0) _ (heap_alloc_new _ _) Tryz.underlying27 rfl H26.out.iT ?_))
    clear hi
    have hn := one_new w2 (.cells TA 27)
    replace HX := Lib.hid ((hn.block _ HZ.out).trans HX.out); replace HB := Lib.hid (HB.out.trans (hn.mono HB.out.size)); replace HZ : Hid (w.heap.size < (w2.alloc (.cells TA 27)).heap.size) := Lib.hid (Nat.lt_of_lt_of_le HZ.out hn.size)
    replace HA := Lib.hid ((hn.block _ HG.out).trans HA.out); replace HG : Hid (w1.heap.size < (w2.alloc (.cells TA 27)).heap.size) := Lib.hid (Nat.lt_of_lt_of_le HG.out hn.size)
    clear hn
    generalize w2.alloc (.cells TA 27) = y3 at *
    refine (HC2.out _ HB.out).mono ?_
    rintro e w3 ⟨rfl, hb⟩
    replace HX := Lib.hid ((hb.block _ HZ.out).trans HX.out); replace HB := Lib.hid (HB.out.trans (hb.mono HB.out.size)); replace HZ : Hid (w.heap.size < w3.heap.size) := Lib.hid (Nat.lt_of_lt_of_le HZ.out hb.size)
    replace HA := Lib.hid ((hb.block _ HG.out).trans HA.out); replace HG : Hid (w1.heap.size < w3.heap.size) := Lib.hid (Nat.lt_of_lt_of_le HG.out hb.size)
    clear hb
    by_cases h1 : ct = 0
    · subst h1
      go_wp2_with fail
      rw [rounds_succ]
      go_wp2_with (refine wpList_load_row rfl 84 (.tmp 3) rfl w1.heap.size rfl 84 VA (0, 0) _ HA.out Tryz.underlying84 rfl H26.out.iA ?_)
      refine wp_loop_rounds 3 ?_
      rw [rounds_succ]
      have hi := HI0.out
      go_wp2_with (first | (refine wpList_store_new rfl 27 (.tmp 8) (.tmp 24) rfl 27 _ SA rfl rfl H26.out.iS (by rw [H26.out.z1]; rfl) H26.out.o1 ?_) | (refine wpList_load_row rfl 27 (.tmp 8) rfl w3.heap.size rfl 27 SA (0, 0) _ (heap_alloc_new _ _) Tryz.underlying27 rfl H26.out.iS ?_))
      clear hi
      have hn := one_new w3 (.cells SA 27)
      replace HX := Lib.hid ((hn.block _ HZ.out).trans HX.out); replace HB := Lib.hid (HB.out.trans (hn.mono HB.out.size)); replace HZ : Hid (w.heap.size < (w3.alloc (.cells SA 27)).heap.size) := Lib.hid (Nat.lt_of_lt_of_le HZ.out hn.size)
      replace HA := Lib.hid ((hn.block _ HG.out).trans HA.out); replace HG : Hid (w1.heap.size < (w3.alloc (.cells SA 27)).heap.size) := Lib.hid (Nat.lt_of_lt_of_le HG.out hn.size)
      clear hn
      generalize w3.alloc (.cells SA 27) = y4 at *
      refine (HS1.out _ HB.out).mono ?_
      rintro e w4 ⟨rfl, hb⟩
      replace HX := Lib.hid ((hb.block _ HZ.out).trans HX.out); replace HB := Lib.hid (HB.out.trans (hb.mono HB.out.size)); replace HZ : Hid (w.heap.size < w4.heap.size) := Lib.hid (Nat.lt_of_lt_of_le HZ.out hb.size)
      replace HA := Lib.hid ((hb.block _ HG.out).trans HA.out); replace HG : Hid (w1.heap.size < w4.heap.size) := Lib.hid (Nat.lt_of_lt_of_le HG.out hb.size)
      clear hb
      cases ss
      · go_wp2_with fail
        go_ret
        exact ⟨by rw [HCF.out]; rfl, HB.out⟩
      · go_wp2_with fail
        rw [rounds_succ]
        have hi := HI1.out
        go_wp2_with (first | (refine wpList_store_new rfl 27 (.tmp 8) (.tmp 24) rfl 27 _ TA rfl rfl H26.out.iT (by rw [H26.out.z2]; rfl) H26.out.o2 ?_) | (refine wpList_load_row rfl 27 (.tmp 8) rfl w4.heap.size rfl 27 TA (0, 0) _ (heap_alloc_new _ _) Tryz.underlying27 rfl H26.out.iT ?_))
        clear hi
        have hn := one_new w4 (.cells TA 27)
        replace HX := Lib.hid ((hn.block _ HZ.out).trans HX.out); replace HB := Lib.hid (HB.out.trans (hn.mono HB.out.size)); replace HZ : Hid (w.heap.size < (w4.alloc (.cells TA 27)).heap.size) := Lib.hid (Nat.lt_of_lt_of_le HZ.out hn.size)
        replace HA := Lib.hid ((hn.block _ HG.out).trans HA.out); replace HG : Hid (w1.heap.size < (w4.alloc (.cells TA 27)).heap.size) := Lib.hid (Nat.lt_of_lt_of_le HG.out hn.size)
        clear hn
        generalize w4.alloc (.cells TA 27) = y5 at *
        refine (HS2.out _ HB.out).mono ?_
        rintro e w5 ⟨rfl, hb⟩
        replace HX := Lib.hid ((hb.block _ HZ.out).trans HX.out); replace HB := Lib.hid (HB.out.trans (hb.mono HB.out.size)); replace HZ : Hid (w.heap.size < w5.heap.size) := Lib.hid (Nat.lt_of_lt_of_le HZ.out hb.size)
        replace HA := Lib.hid ((hb.block _ HG.out).trans HA.out); replace HG : Hid (w1.heap.size < w5.heap.size) := Lib.hid (Nat.lt_of_lt_of_le HG.out hb.size)
        clear hb
        cases st
        · go_wp2_with fail
          go_ret
          exact ⟨by rw [HCF.out]; rfl, HB.out⟩
        · go_wp2_with fail
          rw [rounds_succ]
          go_wp2_with (refine wpList_load_row rfl 29 (.tmp 1) rfl w.heap.size rfl 29 VA (0, 0) _ HX.out Tryz.underlying29 rfl H26.out.iF ?_)
          refine (HTF.out _).mono ?_
          rintro e w6 ⟨rfl, hb⟩
          replace HX := Lib.hid ((hb.block _ HZ.out).trans HX.out); replace HB := Lib.hid (HB.out.trans (hb.mono HB.out.size)); replace HZ : Hid (w.heap.size < w6.heap.size) := Lib.hid (Nat.lt_of_lt_of_le HZ.out hb.size)
          replace HA := Lib.hid ((hb.block _ HG.out).trans HA.out); replace HG : Hid (w1.heap.size < w6.heap.size) := Lib.hid (Nat.lt_of_lt_of_le HG.out hb.size)
          clear hb
          cases tf
          · go_wp2_with fail
            go_ret
            exact ⟨by rw [HCF.out]; rfl, HB.out⟩
          · go_wp2_with fail
            go_ret
            exact ⟨by rw [HCF.out]; rfl, HB.out⟩
    · have g1 : (ct == 0) = false := by simpa using h1
      go_wp2_with fail
      go_ret
      exact ⟨by rw [HCF.out]; simp [h1], HB.out⟩
  · have g0 : (cs == 0) = false := by simpa using h0
    go_wp2_with fail
    go_ret
    exact ⟨by rw [HCF.out]; simp [h0], HB.out⟩
end Go.Proofs.YtkglgboncngpbaaGreatDoor
/- The walk of trustflowref02's rest. -/
namespace Go.Proofs.YtkglgboncngpbaaGreatDoor
open Go.RowKit
set_option maxHeartbeats 400000 in
theorem rest_any (A : Option Addr) (n c : Nat) (us : List UInt8) (w : World) (hr : BRow w A n c us) (hm : n ≤ 900000000) :
    Calls Tryz.prog 94 #[.slice A n c] w (GivesB w us) := by
  have HR := Lib.hid hr; have HL := Lib.hid hr.len; clear hr
  go_enter Tryz.func94, Tryz.ntmps94
  go_wp2_with (at_builtin; go_must (refine wpList_app w rfl (.const (.slice none 0 0)) (.tmp 3) 30 30 5 rfl w.heap.size Tryz.underlying30 u8_info rfl _ 0 [] (World.ownsRow_nil w _ _ _) rfl (.slice A n c) n (bytesV us) (Row.src HR.out Tryz.underlying30 (bytesV_one us)) rfl (by unfold maxLen; omega) (by omega) (Nat.le_refl _) ?_); intro v3 w3 ho3 hb3; have HO3 := Lib.hid ho3; have HB3 := Lib.hid hb3; clear ho3 hb3)
  go_ret
  refine BOwn.gives ?_ HB3.out
  have h := HO3.out
  unfold BOwn; rw [HL.out]
  rw [Nat.zero_add, List.nil_append] at h
  exact h
end Go.Proofs.YtkglgboncngpbaaGreatDoor
/- The walks of package wire: what takes. -/
namespace Go.Proofs.YtkglgboncngpbaaGreatDoor
open Go.RowKit
theorem or_low (m : Nat) (x : UInt8) (h : m < 72057594037927936) : bits .or .u64 ((m : Int) * 256) (w8 x) = ((m * 256 + x.toNat : Nat) : Int) := by
  have hx := w8_lt x
  unfold w8
  rw [show (m : Int) * 256 = ((m * 256 : Nat) : Int) from by omega, u64_or_nat _ _ (by omega) (by omega)]
  have := Nat.two_pow_add_eq_or_of_lt (i := 8) (b := x.toNat) (by omega) m
  rw [show 2 ^ 8 * m = m * 256 from by omega] at this
  rw [this]
set_option maxHeartbeats 400000 in
theorem number_any (A : Option Addr) (n c : Nat) (us : List UInt8) (w : World) (hr : BRow w A n c us) (hn : 8 ≤ n) :
    Calls Tryz.prog 118 #[.slice A n c] w fun e w' => e = .returned (.int .i64 (int8 (us.take 8))) ∧ w = w' := by
  obtain ⟨b, off, rfl, hcell⟩ := Row.form hr (by omega)
  have HL := Lib.hid hr.len; have HC := Lib.hid hcell; clear hr hcell
  go_enter Tryz.func118, Tryz.ntmps118
  go_wp2
  go_loop [3, 4, 5] (fun v y i => ∃ k : Nat, k ≤ 8 ∧ i = .int .i64 k ∧ v = .int .u64 (numB (us.take k) : Nat)) (fun _ _ i => 8 - (intOf i).toNat)
  case atStart => exact ⟨0, by omega, rfl, rfl⟩
  case round =>
    obtain ⟨k, hk, rfl, rfl⟩ := hrel
    by_cases hlt : k < 8
    · have hc := HC.out k (by omega)
      rw [bytesV_get _ _ (by rw [HL.out]; omega)] at hc
      unfold bv at hc
      have hsn : Hid (numB (us.take (k + 1)) = numB (us.take k) * 256 + (us.getD k 0).toNat) := by
        unfold Hid; rw [take_snoc' us k 0 (by rw [HL.out]; omega), numB_snoc]
      have hm : numB (us.take k) < 72057594037927936 := by
        have h1 := numB_lt k (us.take k) (by rw [List.length_take, HL.out]; omega)
        have h2 : 256 ^ k ≤ 256 ^ 7 := Nat.pow_le_pow_right (by omega) (by omega)
        have h3 : (256 : Nat) ^ 7 = 72057594037927936 := by decide
        omega
      generalize hM : numB (us.take k) = m at hm hsn ⊢
      clear hM
      generalize us.getD k 0 = x at hc hsn
      have hor := or_low m x hm
      have hwx : IntKind.u64.wrap (w8 x) = w8 x := by have := w8_bd x; rw [IntKind.wrap_u64]; omega
      go_wp2
      go_round
      case rel => exact ⟨k + 1, by omega, by go_num, by rw [hsn.out]; go_num⟩
      case measure => simp [intOf]; omega
    · have HK : Hid (k = 8) := by unfold Hid; omega
      go_wp2
      go_ret
      exact ⟨by unfold int8; rw [← HK.out]; rfl, rfl⟩
theorem BRow.drop {w : World} {A : Option Addr} {n c : Nat} {us : List UInt8} (h : BRow w A n c us) (k : Nat) (hk : k ≤ n) : BRow w (dropA A c k 1) (n - k) (c - k) (us.drop k) := by
  have := Row.drop h k hk
  rw [Nat.mul_one, bytesV_drop] at this
  exact this
theorem BRow.take {w : World} {A : Option Addr} {n c : Nat} {us : List UInt8} (h : BRow w A n c us) (k : Nat) (hk : k ≤ n) : BRow w A k c (us.take k) := by
  have := Row.take h k hk
  rw [Nat.mul_one, bytesV_take] at this
  exact this
/-- Nothing was taken. -/
def noneI : Ending := .returned (.tuple #[.int .i64 0, .slice none 0 0, .bool false])
def noneS : Ending := .returned (.tuple #[.string ⟨#[]⟩, .slice none 0 0, .bool false])
def noneL : Ending := .returned (.tuple #[.slice none 0 0, .slice none 0 0, .bool false])
set_option maxHeartbeats 400000 in
theorem takeInt_no (A : Option Addr) (n c : Nat) (w : World) (hn : n < 8) :
    Calls Tryz.prog 111 #[.slice A n c] w fun e w' => e = noneI ∧ w = w' := by
  go_enter Tryz.func111, Tryz.ntmps111
  go_wp2
  go_ret3
  exact ⟨rfl, rfl⟩
/-- The number that was taken and the bytes behind it. -/
def TookI (w : World) (us : List UInt8) (e : Ending) (w' : World) : Prop := ∃ A m c, e = .returned (.tuple #[.int .i64 (int8 (us.take 8)), .slice A m c, .bool true]) ∧ m = us.length - 8 ∧ BRow w A m c (us.drop 8) ∧ Below w.heap.size w w'
set_option maxHeartbeats 400000 in
theorem takeInt_yes (A : Option Addr) (n c : Nat) (us : List UInt8) (w : World) (hr : BRow w A n c us) (hn : 8 ≤ n) :
    Calls Tryz.prog 111 #[.slice A n c] w (TookI w us) := by
  have hsl := fun w => run_slice_from (P := Tryz.prog) (t := 30) Tryz.underlying30 u8_size (A := A) (n := n) (c := c) (k := 8) (i := 8) rfl hn .i64 w
  have hd := hr.drop 8 hn
  generalize dropA A c 8 1 = A' at hsl hd
  have HR := Lib.hid hr; have HD := Lib.hid hd; have HL := Lib.hid hr.len; clear hr hd
  go_enter Tryz.func111, Tryz.ntmps111
  go_wp2_with fail
  refine wp_region_grow (by kernel_rfl) Later Later.refl (fun _ _ _ => Later.trans) [4, 5, 6] [([0, 2, 3], 1)] (by kernel_rfl) (by kernel_rfl) (by kernel_rfl) ?_
  simp only [List.map_cons, List.map_nil, pick, List.getD_cons_zero, List.getD_cons_succ]
  refine wpGrow_cons ?_
  repeat (go_big_quiet_step (fail))
  refine wpQuiet_nil ?_
  go_wp2_with fail
  refine (number_any A n c us w.drew (HR.out.later (Later.drew w)) hn).mono ?_
  rintro e w1 ⟨rfl, rfl⟩
  go_wp2_with fail
  refine pieceEnd_normal ⟨Later.refl _, ?_⟩
  refine wpGrow_nil ?_
  repeat (go_big_quiet_step (fail))
  refine wpQuiet_nil ?_
  go_wp2
  go_ret3
  exact ⟨_, _, _, rfl, by rw [HL.out], HD.out, (Later.drew w)⟩
/-- The number at the beginning of bytes; whether so many elements of a size are announced, permitted and there. -/
def cnt (us : List UInt8) : Int := int8 (us.take 8)
structure CountOk (us : List UInt8) (most : Int) (size : Nat) : Prop where
  len : 8 ≤ us.length
  nn : 0 ≤ cnt us
  le : cnt us ≤ most
  fit : cnt us ≤ (((us.length - 8) / size : Nat) : Int)
theorem countNot {us : List UInt8} {most : Int} {size n : Nat} (hl : us.length = n) (hn : 8 ≤ n) (hno : ¬ CountOk us most size) : cnt us < 0 ∨ (0 ≤ cnt us ∧ most < cnt us) ∨ (0 ≤ cnt us ∧ cnt us ≤ most ∧ (((n - 8) / size : Nat) : Int) < cnt us) := by
  rcases Int.lt_or_le (cnt us) 0 with h | h
  · exact .inl h
  · rcases Int.lt_or_le most (cnt us) with h1 | h1
    · exact .inr (.inl ⟨h, h1⟩)
    · rcases Int.lt_or_le (((n - 8) / size : Nat) : Int) (cnt us) with h2 | h2
      · exact .inr (.inr ⟨h, h1, h2⟩)
      · exact (hno ⟨by rw [hl]; exact hn, h, h1, by rw [hl]; exact h2⟩).elim
set_option maxHeartbeats 1000000 in
theorem takeCount_no (A : Option Addr) (n c : Nat) (us : List UInt8) (most : Int) (size : Nat) (w : World) (hr : BRow w A n c us) (hs : size = 1 ∨ size = 8) (hnm : n ≤ 900000000) (hno : ¬ CountOk us most size) :
    Calls Tryz.prog 87 #[.slice A n c, .int .i64 most, .int .i64 size] w fun e w' => e = noneI ∧ Below w.heap.size w w' := by
  have HR := Lib.hid hr; have HL := Lib.hid hr.len; have HNO := Lib.hid hno; clear hr hno
  by_cases hn : n < 8
  · go_enter Tryz.func87, Tryz.ntmps87
    go_wp2_with fail
    refine (takeInt_no A n c w hn).mono ?_
    rintro e w1 ⟨rfl, rfl⟩
    unfold noneI
    go_wp2
    go_ret3
    exact ⟨rfl, Below.refl _ _⟩
  · have hn8 : 8 ≤ n := by omega
    have h4 := Lib.hid (countNot HL.out hn8 HNO.out)
    rcases hs with rfl | rfl
    all_goals
      go_enter Tryz.func87, Tryz.ntmps87
      go_wp2_with fail
      refine (takeInt_yes A n c us w HR.out hn8).mono ?_
      rintro e w1 ⟨A1, m, c1, rfl, hm, hr1, hb1⟩
      have HB1 := Lib.hid hb1; rw [HL.out] at hm; have HM := Lib.hid hm; clear hb1 hr1
      have hm9 : m ≤ 900000000 := by omega
      clear hm
      unfold cnt at h4
      generalize int8 (us.take 8) = v at h4 ⊢
      rcases h4.out with h | ⟨h, h1⟩ | ⟨h, h1, h2⟩
      · have g : (decide (v < 0)) = true := decide_eq_true h
        clear h
        go_wp2
        go_ret3
        exact ⟨rfl, HB1.out⟩
      · have g : (decide (v < 0)) = false := decide_eq_false (by omega)
        have g1 : (decide (most < v)) = true := decide_eq_true h1
        clear h h1
        go_wp2
        go_ret3
        exact ⟨rfl, HB1.out⟩
      · rw [← HM.out] at h2
        have g : (decide (v < 0)) = false := decide_eq_false (by omega)
        have g1 : (decide (most < v)) = false := decide_eq_false (by omega)
        first
          | (have g2 : (decide ((m : Int) < v)) = true := decide_eq_true (by omega)
             clear h h1 h2
             go_wp2
             go_ret3
             exact ⟨rfl, HB1.out⟩)
          | (have g2 : (decide ((m : Int) / 8 < v)) = true := decide_eq_true (by omega)
             clear h h1 h2
             go_wp2
             go_ret3
             exact ⟨rfl, HB1.out⟩)
set_option maxHeartbeats 1000000 in
theorem takeCount_yes (A : Option Addr) (n c : Nat) (us : List UInt8) (most : Int) (size : Nat) (w : World) (hr : BRow w A n c us) (hs : size = 1 ∨ size = 8) (hnm : n ≤ 900000000) (hok : CountOk us most size) :
    Calls Tryz.prog 87 #[.slice A n c, .int .i64 most, .int .i64 size] w (TookI w us) := by
  have HR := Lib.hid hr; have HL := Lib.hid hr.len; have HOK := Lib.hid hok; clear hr hok
  have hn8 : 8 ≤ n := by have := HOK.out.len; rw [HL.out] at this; exact this
  rcases hs with rfl | rfl
  all_goals
    go_enter Tryz.func87, Tryz.ntmps87
    go_wp2_with fail
    refine (takeInt_yes A n c us w HR.out hn8).mono ?_
    rintro e w1 ⟨A1, m, c1, rfl, hm, hr1, hb1⟩
    have HB1 := Lib.hid hb1; have HR1 := Lib.hid hr1; have HM0 := Lib.hid hm; rw [HL.out] at hm; have HM := Lib.hid hm; clear hb1 hr1
    have hm9 : m ≤ 900000000 := by omega
    clear hm
    have h := HOK.out.nn; have h1 := HOK.out.le; have h2 := HOK.out.fit
    rw [HL.out, ← HM.out] at h2
    unfold cnt at h h1 h2
    obtain ⟨v, hv⟩ : ∃ v, v = int8 (us.take 8) := ⟨_, rfl⟩
    rw [← hv] at h h1 h2 ⊢
    have HV := Lib.hid hv; clear hv
    have g : (decide (v < 0)) = false := decide_eq_false (by omega)
    have g1 : (decide (most < v)) = false := decide_eq_false (by omega)
    first
      | (have g2 : (decide ((m : Int) < v)) = false := decide_eq_false (by omega)
         clear h h1 h2
         go_wp2
         go_ret3
         exact ⟨A1, m, c1, by rw [← HV.out]; rfl, HM0.out, HR1.out, HB1.out⟩)
      | (have g2 : (decide ((m : Int) / 8 < v)) = false := decide_eq_false (by omega)
         clear h h1 h2
         go_wp2
         go_ret3
         exact ⟨A1, m, c1, by rw [← HV.out]; rfl, HM0.out, HR1.out, HB1.out⟩)
end Go.Proofs.YtkglgboncngpbaaGreatDoor
