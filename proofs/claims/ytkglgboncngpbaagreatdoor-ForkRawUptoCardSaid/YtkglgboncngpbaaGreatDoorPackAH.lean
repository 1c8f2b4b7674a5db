import Derived.Test.YtkglgboncngpbaaGreatDoorPackAG
import Derived.Test.YtkglgboncngpbaaGreatDoorPackAF
import Derived.Laws.IdiomStrings
import Derived.Great.BuildSlice
/- The walk of statement.read. -/
namespace Go.Proofs.YtkglgboncngpbaaGreatDoor
open Go.RowKit
def zeroS : Stm := ⟨0, 0, ⟨#[]⟩, 0, 0, 0, 0, 0, [], [], ⟨#[]⟩, 0, ⟨#[]⟩⟩
/-- Whether bytes say a statement and nothing more. -/
noncomputable def readOk (us : List UInt8) : Bool := (parse us).2.2 && decide ((parse us).2.1.length = 0)
noncomputable def readS (us : List UInt8) : Stm := if readOk us = true then (parse us).1 else zeroS
def ReadR (w : World) (s : Stm) (ok : Bool) (e : Ending) (w' : World) : Prop :=
  ∃ A n c B m k, e = .returned (.tuple #[stmV s A n c B m k, .bool ok]) ∧ IRow w' A n c s.list ∧ PRow w' B m k s.pins ∧ New w w' A ∧ New w w' B ∧ Below w.heap.size w w'
theorem results_read {tmps : Array Value} {w : World} {s k : Nat} {cs : Array Value} {b : Bool} (h2 : tmps.getD 2 undef = .pointer (some ⟨s, 0, none⟩)) (h3 : tmps.getD 3 undef = .pointer (some ⟨k, 0, none⟩))
    (hs : w.heap[s]? = some (.cells cs 27 (0, 0))) (hz : cs.size = 13) (hk : w.heap[k]? = some (.cells #[.bool b] 4 (0, 0))) :
    (results Tryz.f88 tmps).run Tryz.prog w = .ok (.tuple #[.agg cs, .bool b]) w := by
  have hr : Tryz.f88.results = #[.cell 2 27, .cell 3 4] := rfl
  have h2' : tmps[2]?.getD undef = .pointer (some ⟨s, 0, none⟩) := by simpa using h2
  have h3' : tmps[3]?.getD undef = .pointer (some ⟨k, 0, none⟩) := by simpa using h3
  have hc : w.cell? ⟨k, 0, none⟩ = some (.bool b) := by rw [cell_of_row _ _ _ _ _ _ hk]; rfl
  have hl := run_loadVar_row (P := Tryz.prog) w s 27 27 cs (0, 0) _ hs Tryz.underlying27 rfl (by rw [hz]; kernel_rfl)
  have hb : (loadVar 4 ⟨k, 0, none⟩).run Tryz.prog w = .ok (.bool b) w := by simp [go_sem, hc]
  unfold results
  rw [hr]
  simp [h2', h3', asAddr, hl, hb]
set_option maxRecDepth 100000 in
set_option maxHeartbeats 2000000 in
theorem read_any (A : Option Addr) (n c : Nat) (us : List UInt8) (w : World) (hr : BRow w A n c us) (hn : n ≤ 900000) :
    Calls Tryz.prog 88 #[.slice A n c] w (ReadR w (readS us) (readOk us)) := by
  have hmf : ∀ (fn : Fn) (first cap : Array Value) (w : World), (Instr.makeFunc fn first cap).run Tryz.prog w = .ok (.func fn first cap) w := fun _ _ _ _ => rfl
  have hlen := hr.len
  have hlow : ∀ ad, A = some ad → 0 < n → ad.block < w.heap.size := fun ad hA h0 => Row.lt hr (by omega) ad hA h0
  have hb1 : Below w.heap.size w (((w.alloc (.cells #[.int .i64 0, .int .i64 0, .string ⟨#[]⟩, .int .i64 0, .int .i64 0, .int .i64 0, .int .i64 0, .int .i64 0, .slice none 0 0, .slice none 0 0, .string ⟨#[]⟩, .int .i64 0, .string ⟨#[]⟩] 27)).alloc (.cells #[.bool false] 4)).alloc (.cells #[.slice A n c] 133)) := ((one_new w _).alloc (by simp only [World.size_alloc]; omega) _).alloc (by simp only [World.size_alloc]; omega) _
  have hR : (((w.alloc (.cells #[.int .i64 0, .int .i64 0, .string ⟨#[]⟩, .int .i64 0, .int .i64 0, .int .i64 0, .int .i64 0, .int .i64 0, .slice none 0 0, .slice none 0 0, .string ⟨#[]⟩, .int .i64 0, .string ⟨#[]⟩] 27)).alloc (.cells #[.bool false] 4)).alloc (.cells #[.slice A n c] 133)).heap[w.heap.size + 2]? = some (.cells #[.slice A n c] 133 (0, 0)) := by
    have := heap_alloc_new ((w.alloc (.cells #[.int .i64 0, .int .i64 0, .string ⟨#[]⟩, .int .i64 0, .int .i64 0, .int .i64 0, .int .i64 0, .int .i64 0, .slice none 0 0, .slice none 0 0, .string ⟨#[]⟩, .int .i64 0, .string ⟨#[]⟩] 27)).alloc (.cells #[.bool false] 4)) (.cells #[.slice A n c] 133)
    rw [show ((w.alloc (.cells #[.int .i64 0, .int .i64 0, .string ⟨#[]⟩, .int .i64 0, .int .i64 0, .int .i64 0, .int .i64 0, .int .i64 0, .slice none 0 0, .slice none 0 0, .string ⟨#[]⟩, .int .i64 0, .string ⟨#[]⟩] 27)).alloc (.cells #[.bool false] 4)).heap.size = w.heap.size + 2 by simp] at this
    exact this
  have hK : (((w.alloc (.cells #[.int .i64 0, .int .i64 0, .string ⟨#[]⟩, .int .i64 0, .int .i64 0, .int .i64 0, .int .i64 0, .int .i64 0, .slice none 0 0, .slice none 0 0, .string ⟨#[]⟩, .int .i64 0, .string ⟨#[]⟩] 27)).alloc (.cells #[.bool false] 4)).alloc (.cells #[.slice A n c] 133)).heap[w.heap.size + 1]? = some (.cells #[.bool false] 4 (0, 0)) := by
    have := heap_alloc_new (w.alloc (.cells #[.int .i64 0, .int .i64 0, .string ⟨#[]⟩, .int .i64 0, .int .i64 0, .int .i64 0, .int .i64 0, .int .i64 0, .slice none 0 0, .slice none 0 0, .string ⟨#[]⟩, .int .i64 0, .string ⟨#[]⟩] 27)) (.cells #[.bool false] 4)
    rw [show (w.alloc (.cells #[.int .i64 0, .int .i64 0, .string ⟨#[]⟩, .int .i64 0, .int .i64 0, .int .i64 0, .int .i64 0, .int .i64 0, .slice none 0 0, .slice none 0 0, .string ⟨#[]⟩, .int .i64 0, .string ⟨#[]⟩] 27)).heap.size = w.heap.size + 1 by simp] at this
    exact (Below.heap_alloc _ _ _ (by simp)).trans this
  have hS : (((w.alloc (.cells #[.int .i64 0, .int .i64 0, .string ⟨#[]⟩, .int .i64 0, .int .i64 0, .int .i64 0, .int .i64 0, .int .i64 0, .slice none 0 0, .slice none 0 0, .string ⟨#[]⟩, .int .i64 0, .string ⟨#[]⟩] 27)).alloc (.cells #[.bool false] 4)).alloc (.cells #[.slice A n c] 133)).heap[w.heap.size]? = some (.cells zeroA 27 (0, 0)) :=
    (Below.heap_alloc _ _ _ (by simp only [World.size_alloc]; omega)).trans ((Below.heap_alloc _ _ _ (by simp)).trans (heap_alloc_new w (.cells #[.int .i64 0, .int .i64 0, .string ⟨#[]⟩, .int .i64 0, .int .i64 0, .int .i64 0, .int .i64 0, .int .i64 0, .slice none 0 0, .slice none 0 0, .string ⟨#[]⟩, .int .i64 0, .string ⟨#[]⟩] 27)))
  have hz : w.heap.size + 2 < (((w.alloc (.cells #[.int .i64 0, .int .i64 0, .string ⟨#[]⟩, .int .i64 0, .int .i64 0, .int .i64 0, .int .i64 0, .int .i64 0, .slice none 0 0, .slice none 0 0, .string ⟨#[]⟩, .int .i64 0, .string ⟨#[]⟩] 27)).alloc (.cells #[.bool false] 4)).alloc (.cells #[.slice A n c] 133)).heap.size := by simp
  have hrd : RdAt (((w.alloc (.cells #[.int .i64 0, .int .i64 0, .string ⟨#[]⟩, .int .i64 0, .int .i64 0, .int .i64 0, .int .i64 0, .int .i64 0, .slice none 0 0, .slice none 0 0, .string ⟨#[]⟩, .int .i64 0, .string ⟨#[]⟩] 27)).alloc (.cells #[.bool false] 4)).alloc (.cells #[.slice A n c] 133)) w.heap.size (w.heap.size + 2) us := ⟨⟨A, n, c, hR, Row.later hr hb1, hlow⟩, by omega⟩
  have HB1 := Lib.hid hb1; have HK1 := Lib.hid hK; have HS1 := Lib.hid hS; have HZ1 := Lib.hid hz; have HR1 := Lib.hid hrd
  have HOK : Hid (readOk us = ((parse us).2.2 && decide ((parse us).2.1.length = 0))) := Lib.hid rfl
  have HRS : Hid (readS us = if readOk us = true then (parse us).1 else zeroS) := Lib.hid rfl
  have HST : Hid (∀ y, RdAt y w.heap.size (w.heap.size + 2) us → Calls Tryz.prog 113 #[.pointer (some ⟨w.heap.size + 2, 0, none⟩)] y (ReadsS w.heap.size (w.heap.size + 2) y (parse us).1 (parse us).2.1 (parse us).2.2)) := Lib.hid fun y h => rdStatement _ _ us y h (by omega)
  clear hlow hb1 hR hK hS hz hrd hlen hr
  generalize readS us = RS at HRS ⊢
  generalize readOk us = OK at HOK HRS ⊢
  generalize parse us = T at HOK HRS HST
  obtain ⟨s, rest, ok⟩ := T
  simp only at HOK HRS HST
  go_enter_defers Tryz.func88, Tryz.ntmps88
  go_wp2_with fail
  rw [show w.heap.size + 1 + 1 = w.heap.size + 2 from rfl]
  generalize ((w.alloc (.cells #[.int .i64 0, .int .i64 0, .string ⟨#[]⟩, .int .i64 0, .int .i64 0, .int .i64 0, .int .i64 0, .int .i64 0, .slice none 0 0, .slice none 0 0, .string ⟨#[]⟩, .int .i64 0, .string ⟨#[]⟩] 27)).alloc (.cells #[.bool false] 4)).alloc (.cells #[.slice A n c] 133) = w1 at HB1 HK1 HS1 HZ1 HR1 ⊢
  refine (HST.out w1 HR1.out).mono ?_
  rintro e y1 ⟨hb, ⟨hok, ⟨A1, n1, c1, B1, m1, k1, rfl, hl, hp, hna, hnb⟩, hrd⟩ | ⟨hok, rfl⟩⟩
  · obtain ⟨⟨A', n', c', hR', hr', -⟩, -⟩ := hrd
    have hlr : rest.length = n' := hr'.len
    clear hr'
    have HB2 := Lib.hid (HB1.out.trans (hb.below (B := w.heap.size) (by omega) HB1.out.size))
    have HS2 := Lib.hid ((hb.block w.heap.size (by have := HZ1.out; omega) (by omega)).trans HS1.out)
    have HK2 := Lib.hid ((hb.block (w.heap.size + 1) (by have := HZ1.out; omega) (by omega)).trans HK1.out)
    have HZ2 : Hid (w.heap.size + 2 < y1.heap.size) := Lib.hid (Nat.lt_of_lt_of_le HZ1.out hb.size)
    have HNA : Hid (∀ ad, A1 = some ad → w.heap.size + 2 < ad.block) := Lib.hid fun ad hA => Nat.lt_of_lt_of_le HZ1.out (hna ad hA).1
    have HNB : Hid (∀ ad, B1 = some ad → w.heap.size + 2 < ad.block) := Lib.hid fun ad hA => Nat.lt_of_lt_of_le HZ1.out (hnb ad hA).1
    have HMA : Hid (∀ ad, A1 = some ad → ad.block < y1.heap.size) := Lib.hid fun ad hA => (hna ad hA).2
    have HMB : Hid (∀ ad, B1 = some ad → ad.block < y1.heap.size) := Lib.hid fun ad hA => (hnb ad hA).2
    have HL2 := Lib.hid hl; have HP2 := Lib.hid hp
    obtain ⟨sa, sn, sp, st, sk, s5, s6, s7, sl, spn, s10, s11, s12⟩ := s
    unfold stmV
    simp only
    have hcR : (y1.setRow w.heap.size #[.int .i64 sa, .int .i64 sn, .string sp, .int .i64 st, .int .i64 sk, .int .i64 s5, .int .i64 s6, .int .i64 s7, .slice A1 n1 c1, .slice B1 m1 k1, .string s10, .int .i64 s11, .string s12]).cell? ⟨w.heap.size + 2, 0, none⟩ = some (.slice A' n' c') := by
      rw [cell_of_row _ _ _ _ _ _ ((setRow_other _ _ _ _ (by omega)).trans hR')]; rfl
    have HSR : Hid ((y1.setRow w.heap.size #[.int .i64 sa, .int .i64 sn, .string sp, .int .i64 st, .int .i64 sk, .int .i64 s5, .int .i64 s6, .int .i64 s7, .slice A1 n1 c1, .slice B1 m1 k1, .string s10, .int .i64 s11, .string s12]).heap[w.heap.size]? = some (.cells #[.int .i64 sa, .int .i64 sn, .string sp, .int .i64 st, .int .i64 sk, .int .i64 s5, .int .i64 s6, .int .i64 s7, .slice A1 n1 c1, .slice B1 m1 k1, .string s10, .int .i64 s11, .string s12] 27 (0, 0))) := Lib.hid (setRow_heap _ _ _ _ _ _ HS2.out)
    have HKR : Hid ((y1.setRow w.heap.size #[.int .i64 sa, .int .i64 sn, .string sp, .int .i64 st, .int .i64 sk, .int .i64 s5, .int .i64 s6, .int .i64 s7, .slice A1 n1 c1, .slice B1 m1 k1, .string s10, .int .i64 s11, .string s12]).heap[w.heap.size + 1]? = some (.cells #[.bool false] 4 (0, 0))) := Lib.hid ((setRow_other _ _ _ _ (by omega)).trans HK2.out)
    have HBR : Hid (Below w.heap.size w (y1.setRow w.heap.size #[.int .i64 sa, .int .i64 sn, .string sp, .int .i64 st, .int .i64 sk, .int .i64 s5, .int .i64 s6, .int .i64 s7, .slice A1 n1 c1, .slice B1 m1 k1, .string s10, .int .i64 s11, .string s12])) := Lib.hid (below_setRow HB2.out (Nat.le_refl _) _)
    have HKP : Hid (∀ k, k ≠ w.heap.size → (y1.setRow w.heap.size #[.int .i64 sa, .int .i64 sn, .string sp, .int .i64 st, .int .i64 sk, .int .i64 s5, .int .i64 s6, .int .i64 s7, .slice A1 n1 c1, .slice B1 m1 k1, .string s10, .int .i64 s11, .string s12]).heap[k]? = y1.heap[k]?) := Lib.hid fun k hk => setRow_other _ _ _ _ hk
    have HYS : Hid (y1.heap.size = (y1.setRow w.heap.size #[.int .i64 sa, .int .i64 sn, .string sp, .int .i64 st, .int .i64 sk, .int .i64 s5, .int .i64 s6, .int .i64 s7, .slice A1 n1 c1, .slice B1 m1 k1, .string s10, .int .i64 s11, .string s12]).heap.size) := Lib.hid (by rw [setRow_size])
    have HZR : Hid (w.heap.size + 2 < (y1.setRow w.heap.size #[.int .i64 sa, .int .i64 sn, .string sp, .int .i64 st, .int .i64 sk, .int .i64 s5, .int .i64 s6, .int .i64 s7, .slice A1 n1 c1, .slice B1 m1 k1, .string s10, .int .i64 s11, .string s12]).heap.size) := Lib.hid (by rw [setRow_size]; exact HZ2.out)
    clear hb hl hp hna hnb hR' HST
    by_cases h0 : n' = 0
    · have e0 : (n' : Int) = 0 := by omega
      have HOK2 : Hid (OK = true) := by unfold Hid; rw [HOK.out, hok]; simp [hlr, h0]
      have HRS2 : Hid (RS = ⟨sa, sn, sp, st, sk, s5, s6, s7, sl, spn, s10, s11, s12⟩) := by unfold Hid; rw [HRS.out, HOK2.out]; rfl
      go_wp2_with (refine wpList_store_row rfl 27 (.tmp 2) (.tmp 8) rfl w.heap.size #[.int .i64 sa, .int .i64 sn, .string sp, .int .i64 st, .int .i64 sk, .int .i64 s5, .int .i64 s6, .int .i64 s7, .slice A1 n1 c1, .slice B1 m1 k1, .string s10, .int .i64 s11, .string s12] rfl rfl 27 _ HS2.out (by kernel_rfl) rfl (by simp [Value.oneCell']) ?_)
      refine (require_yes _ _).mono ?_
      rintro e w2 ⟨rfl, rfl⟩
      clear hcR
      generalize (y1.setRow w.heap.size #[.int .i64 sa, .int .i64 sn, .string sp, .int .i64 st, .int .i64 sk, .int .i64 s5, .int .i64 s6, .int .i64 s7, .slice A1 n1 c1, .slice B1 m1 k1, .string s10, .int .i64 s11, .string s12]) = y2 at HSR HKR HBR HKP HZR HYS ⊢
      obtain ⟨hc0, hc1, hc2, hc3, hc4, hc5, hc6, hc7, hc8, hc9, hc10, hc11, hc12⟩ := stm_cells (A := A1) (n := n1) (c := c1) (B := B1) (m := m1) (k := k1) (s := ⟨sa, sn, sp, st, sk, s5, s6, s7, sl, spn, s10, s11, s12⟩) HSR.out
      have HKS : Hid ((y2.setRow w.heap.size #[.int .i64 sa, .int .i64 sn, .string sp, .int .i64 st, .int .i64 sk, .int .i64 s5, .int .i64 s6, .int .i64 s7, .slice A1 n1 c1, .slice B1 m1 k1, .string s10, .int .i64 s11, .string s12]).heap[w.heap.size + 1]? = _) := Lib.hid ((setRow_other _ _ _ _ (by omega)).trans HKR.out)
      have hcK : (y2.setRow w.heap.size #[.int .i64 sa, .int .i64 sn, .string sp, .int .i64 st, .int .i64 sk, .int .i64 s5, .int .i64 s6, .int .i64 s7, .slice A1 n1 c1, .slice B1 m1 k1, .string s10, .int .i64 s11, .string s12]).cell? ⟨w.heap.size + 1, 0, none⟩ = some (.bool false) := by rw [cell_of_row _ _ _ _ _ _ HKS.out]; rfl
      have hzK : (y2.setRow w.heap.size #[.int .i64 sa, .int .i64 sn, .string sp, .int .i64 st, .int .i64 sk, .int .i64 s5, .int .i64 s6, .int .i64 s7, .slice A1 n1 c1, .slice B1 m1 k1, .string s10, .int .i64 s11, .string s12]).frozen? ⟨w.heap.size + 1, 0, none⟩ = false := frozen_of_row _ _ _ _ _ HKS.out
      go_wp2_with (refine wpList_store_row rfl 27 (.tmp 2) (.tmp 14) rfl w.heap.size #[.int .i64 sa, .int .i64 sn, .string sp, .int .i64 st, .int .i64 sk, .int .i64 s5, .int .i64 s6, .int .i64 s7, .slice A1 n1 c1, .slice B1 m1 k1, .string s10, .int .i64 s11, .string s12] rfl rfl 27 _ HSR.out (by kernel_rfl) rfl (by simp [Value.oneCell']) ?_)
      have hs3 : ((y2.setRow w.heap.size #[.int .i64 sa, .int .i64 sn, .string sp, .int .i64 st, .int .i64 sk, .int .i64 s5, .int .i64 s6, .int .i64 s7, .slice A1 n1 c1, .slice B1 m1 k1, .string s10, .int .i64 s11, .string s12]).setCell ⟨w.heap.size + 1, 0, none⟩ (.bool true)).heap[w.heap.size]? = some (.cells #[.int .i64 sa, .int .i64 sn, .string sp, .int .i64 st, .int .i64 sk, .int .i64 s5, .int .i64 s6, .int .i64 s7, .slice A1 n1 c1, .slice B1 m1 k1, .string s10, .int .i64 s11, .string s12] 27 (0, 0)) := (Below.heap_setCell _ _ _ _ (by show w.heap.size ≠ w.heap.size + 1; omega)).trans (setRow_heap _ _ _ _ _ _ HSR.out)
      have hk3 : ((y2.setRow w.heap.size #[.int .i64 sa, .int .i64 sn, .string sp, .int .i64 st, .int .i64 sk, .int .i64 s5, .int .i64 s6, .int .i64 s7, .slice A1 n1 c1, .slice B1 m1 k1, .string s10, .int .i64 s11, .string s12]).setCell ⟨w.heap.size + 1, 0, none⟩ (.bool true)).heap[w.heap.size + 1]? = some (.cells #[.bool true] 4 (0, 0)) := heap_setCell_same _ _ _ _ _ _ HKS.out
      have hb3 : Below w.heap.size w ((y2.setRow w.heap.size #[.int .i64 sa, .int .i64 sn, .string sp, .int .i64 st, .int .i64 sk, .int .i64 s5, .int .i64 s6, .int .i64 s7, .slice A1 n1 c1, .slice B1 m1 k1, .string s10, .int .i64 s11, .string s12]).setCell ⟨w.heap.size + 1, 0, none⟩ (.bool true)) := (below_setRow HBR.out (Nat.le_refl _) _).setCell (p := ⟨w.heap.size + 1, 0, none⟩) (by show w.heap.size ≤ w.heap.size + 1; omega) _
      have hkp : ∀ k, w.heap.size + 2 < k → ((y2.setRow w.heap.size #[.int .i64 sa, .int .i64 sn, .string sp, .int .i64 st, .int .i64 sk, .int .i64 s5, .int .i64 s6, .int .i64 s7, .slice A1 n1 c1, .slice B1 m1 k1, .string s10, .int .i64 s11, .string s12]).setCell ⟨w.heap.size + 1, 0, none⟩ (.bool true)).heap[k]? = y1.heap[k]? := fun k hk => (Below.heap_setCell _ _ _ _ (by show k ≠ w.heap.size + 1; omega)).trans ((setRow_other _ _ _ _ (by omega)).trans (HKP.out k (by omega)))
      have hss : ((y2.setRow w.heap.size #[.int .i64 sa, .int .i64 sn, .string sp, .int .i64 st, .int .i64 sk, .int .i64 s5, .int .i64 s6, .int .i64 s7, .slice A1 n1 c1, .slice B1 m1 k1, .string s10, .int .i64 s11, .string s12]).setCell ⟨w.heap.size + 1, 0, none⟩ (.bool true)).heap.size = y2.heap.size := by rw [World.size_setCell, setRow_size]
      have hzz : w.heap.size + 2 < ((y2.setRow w.heap.size #[.int .i64 sa, .int .i64 sn, .string sp, .int .i64 st, .int .i64 sk, .int .i64 s5, .int .i64 s6, .int .i64 s7, .slice A1 n1 c1, .slice B1 m1 k1, .string s10, .int .i64 s11, .string s12]).setCell ⟨w.heap.size + 1, 0, none⟩ (.bool true)).heap.size := by rw [World.size_setCell, setRow_size]; exact HZR.out
      generalize (y2.setRow w.heap.size #[.int .i64 sa, .int .i64 sn, .string sp, .int .i64 st, .int .i64 sk, .int .i64 s5, .int .i64 s6, .int .i64 s7, .slice A1 n1 c1, .slice B1 m1 k1, .string s10, .int .i64 s11, .string s12]).setCell ⟨w.heap.size + 1, 0, none⟩ (.bool true) = w3 at hs3 hk3 hb3 hkp hzz hss ⊢
      refine leaves_cons (f := 112) (args := #[.pointer (some ⟨w.heap.size, 0, none⟩), .pointer (some ⟨w.heap.size + 1, 0, none⟩)]) (by simp) (by simp [go_sem]) ?_
      refine (catch_idle ⟨w.heap.size, 0, none⟩ ⟨w.heap.size + 1, 0, none⟩ w3).mono ?_
      rintro e u' w4 ⟨rfl, rfl, hb4⟩
      change Leaves _ _ _ _ [] FrameMode.returning _
      refine ⟨_, results_read rfl rfl ((hb4.block _ (by omega)).trans hs3) rfl ((hb4.block _ (by omega)).trans hk3), A1, n1, c1, B1, m1, k1, ?_, ?_, ?_, (fun ad hA => ⟨by have := HNA.out ad hA; omega, by have := HMA.out ad hA; have := hb4.size; have := HYS.out; omega⟩), (fun ad hA => ⟨by have := HNB.out ad hA; omega, by have := HMB.out ad hA; have := hb4.size; have := HYS.out; omega⟩), hb3.trans (hb4.mono hb3.size)⟩
      · rw [HRS2.out, HOK2.out]; rfl
      · rw [HRS2.out]; exact (Row.keep HL2.out fun ad hA _ _ => hkp _ (HNA.out ad hA) : IRow w3 A1 n1 c1 sl).later hb4
      · rw [HRS2.out]; exact (Row.keep HP2.out fun ad hA _ _ => hkp _ (HNB.out ad hA) : PRow w3 B1 m1 k1 spn).later hb4
    · have e0 : (n' == 0) = false := by simpa using h0
      have e1 : ((n' : Int) == 0) = false := by simp; omega
      have HOK2 : Hid (OK = false) := by unfold Hid; rw [HOK.out, hok]; simp [hlr, h0]
      have HRS2 : Hid (RS = zeroS) := by unfold Hid; rw [HRS.out, HOK2.out]; rfl
      go_wp2_with (refine wpList_store_row rfl 27 (.tmp 2) (.tmp 8) rfl w.heap.size #[.int .i64 sa, .int .i64 sn, .string sp, .int .i64 st, .int .i64 sk, .int .i64 s5, .int .i64 s6, .int .i64 s7, .slice A1 n1 c1, .slice B1 m1 k1, .string s10, .int .i64 s11, .string s12] rfl rfl 27 _ HS2.out (by kernel_rfl) rfl (by simp [Value.oneCell']) ?_)
      refine (require_no _ _).mono ?_
      rintro e w2 ⟨rfl, rfl⟩
      clear hcR
      generalize (y1.setRow w.heap.size #[.int .i64 sa, .int .i64 sn, .string sp, .int .i64 st, .int .i64 sk, .int .i64 s5, .int .i64 s6, .int .i64 s7, .slice A1 n1 c1, .slice B1 m1 k1, .string s10, .int .i64 s11, .string s12]) = y2 at HSR HKR HBR HKP HZR HYS ⊢
      go_wp2
      refine leaves_cons (f := 112) (args := #[.pointer (some ⟨w.heap.size, 0, none⟩), .pointer (some ⟨w.heap.size + 1, 0, none⟩)]) (by simp) (by simp [go_sem]) ?_
      refine (catch_panicking w.heap.size (w.heap.size + 1) _ false y2 HSR.out rfl HKR.out (by omega) []).mono ?_
      rintro e u' w'' ⟨rfl, rfl, rfl⟩
      have hs3 : (((y2.alloc (.cells #[] 130)).setRow w.heap.size zeroA).setCell ⟨w.heap.size + 1, 0, none⟩ (.bool false)).heap[w.heap.size]? = some (.cells zeroA 27 (0, 0)) :=
        (Below.heap_setCell _ _ _ _ (by show w.heap.size ≠ w.heap.size + 1; omega)).trans (setRow_heap _ _ _ _ _ _ ((Below.heap_alloc _ _ _ (Array.getElem?_eq_some_iff.1 HSR.out).1).trans HSR.out))
      have hk3 : (((y2.alloc (.cells #[] 130)).setRow w.heap.size zeroA).setCell ⟨w.heap.size + 1, 0, none⟩ (.bool false)).heap[w.heap.size + 1]? = some (.cells #[.bool false] 4 (0, 0)) :=
        heap_setCell_same _ _ _ _ _ _ ((setRow_other _ _ _ _ (by omega)).trans ((Below.heap_alloc _ _ _ (Array.getElem?_eq_some_iff.1 HKR.out).1).trans HKR.out))
      have hb3 : Below w.heap.size w (((y2.alloc (.cells #[] 130)).setRow w.heap.size zeroA).setCell ⟨w.heap.size + 1, 0, none⟩ (.bool false)) :=
        (below_setRow (HBR.out.alloc HBR.out.size _) (Nat.le_refl _) _).setCell (p := ⟨w.heap.size + 1, 0, none⟩) (by show w.heap.size ≤ w.heap.size + 1; omega) _
      generalize ((y2.alloc (.cells #[] 130)).setRow w.heap.size zeroA).setCell ⟨w.heap.size + 1, 0, none⟩ (.bool false) = w3 at hs3 hk3 hb3 ⊢
      change Leaves _ _ _ _ [] FrameMode.returning _
      refine ⟨_, results_read rfl rfl hs3 rfl hk3, none, 0, 0, none, 0, 0, ?_, ?_, ?_, (fun _ h => by cases h), (fun _ h => by cases h), hb3⟩
      · rw [HRS2.out, HOK2.out]; rfl
      · rw [HRS2.out]; exact Row.nilRow _ _
      · rw [HRS2.out]; exact Row.nilRow _ _
  · have HB2 := Lib.hid (HB1.out.trans (hb.below (B := w.heap.size) (by omega) HB1.out.size))
    have HS2 := Lib.hid ((hb.block w.heap.size (by have := HZ1.out; omega) (by omega)).trans HS1.out)
    have HK2 := Lib.hid ((hb.block (w.heap.size + 1) (by have := HZ1.out; omega) (by omega)).trans HK1.out)
    have HOK2 : Hid (OK = false) := by unfold Hid; rw [HOK.out, hok]; rfl
    have HRS2 : Hid (RS = zeroS) := by unfold Hid; rw [HRS.out, HOK2.out]; rfl
    go_wp2
    refine leaves_cons (f := 112) (args := #[.pointer (some ⟨w.heap.size, 0, none⟩), .pointer (some ⟨w.heap.size + 1, 0, none⟩)]) (by simp) (by simp [go_sem]) ?_
    refine (catch_panicking w.heap.size (w.heap.size + 1) _ false y1 HS2.out rfl HK2.out (by omega) []).mono ?_
    rintro e u' w'' ⟨rfl, rfl, rfl⟩
    have hs3 : (((y1.alloc (.cells #[] 130)).setRow w.heap.size zeroA).setCell ⟨w.heap.size + 1, 0, none⟩ (.bool false)).heap[w.heap.size]? = some (.cells zeroA 27 (0, 0)) :=
      (Below.heap_setCell _ _ _ _ (by show w.heap.size ≠ w.heap.size + 1; omega)).trans (setRow_heap _ _ _ _ _ _ ((Below.heap_alloc _ _ _ (Array.getElem?_eq_some_iff.1 HS2.out).1).trans HS2.out))
    have hk3 : (((y1.alloc (.cells #[] 130)).setRow w.heap.size zeroA).setCell ⟨w.heap.size + 1, 0, none⟩ (.bool false)).heap[w.heap.size + 1]? = some (.cells #[.bool false] 4 (0, 0)) :=
      heap_setCell_same _ _ _ _ _ _ ((setRow_other _ _ _ _ (by omega)).trans ((Below.heap_alloc _ _ _ (Array.getElem?_eq_some_iff.1 HK2.out).1).trans HK2.out))
    have hb3 : Below w.heap.size w (((y1.alloc (.cells #[] 130)).setRow w.heap.size zeroA).setCell ⟨w.heap.size + 1, 0, none⟩ (.bool false)) :=
      (below_setRow (HB2.out.alloc HB2.out.size _) (Nat.le_refl _) _).setCell (p := ⟨w.heap.size + 1, 0, none⟩) (by show w.heap.size ≤ w.heap.size + 1; omega) _
    generalize ((y1.alloc (.cells #[] 130)).setRow w.heap.size zeroA).setCell ⟨w.heap.size + 1, 0, none⟩ (.bool false) = w3 at hs3 hk3 hb3 ⊢
    change Leaves _ _ _ _ [] FrameMode.returning _
    refine ⟨_, results_read rfl rfl hs3 rfl hk3, none, 0, 0, none, 0, 0, ?_, ?_, ?_, (fun _ h => by cases h), (fun _ h => by cases h), hb3⟩
    · rw [HRS2.out, HOK2.out]; rfl
    · rw [HRS2.out]; exact Row.nilRow _ _
    · rw [HRS2.out]; exact Row.nilRow _ _
end Go.Proofs.YtkglgboncngpbaaGreatDoor
/- The walk of statement.Decode. -/
namespace Go.Proofs.YtkglgboncngpbaaGreatDoor
open Go.RowKit
theorem takeS_size (us : List UInt8) (most : Int) (h0 : 0 ≤ most) : ((takeS us most).1.size : Int) ≤ most := by
  unfold takeS
  split
  · rename_i h
    have h1 := h.le; have h2 := h.nn
    simp only [strOf_size, List.length_take]
    omega
  · exact h0
theorem takeL_size (us : List UInt8) (most : Int) (h0 : 0 ≤ most) : ((takeL us most).1.length : Int) ≤ most := by
  unfold takeL
  split
  · rename_i h
    have h1 := h.le; have h2 := h.nn
    simp only [intsAt_len]
    omega
  · exact h0
theorem pinsL_size (us : List UInt8) : ∀ j, (pinsBs (pinsL j us).1).length ≤ 56 * j
  | 0 => by show (pinsBs []).length ≤ _; simp [pinsBs]
  | j + 1 => by
    show (pinsBs ((pinsL j us).1 ++ [pinAt (pinsL j us).2.1])).length ≤ _
    rw [pinsBs_snoc, List.length_append]
    have h1 := pinsL_size us j
    have h2 : (pinBs (pinAt (pinsL j us).2.1)).length ≤ 56 := by
      unfold pinBs
      rw [List.length_append, listB_len, textS_len]
      have : ((pinAt (pinsL j us).2.1).digest.size : Int) ≤ 32 := takeS_size _ _ (by omega)
      simp only [List.length_cons, List.length_nil]
      omega
    omega
theorem takeP_ok {us : List UInt8} (h : (takeP us).2.2 = true) : 0 ≤ (takeI us).1 ∧ (takeI us).1 ≤ 64 := by
  unfold takeP at h
  simp only [Bool.and_eq_true] at h
  have := h.1.2
  simpa [btw] using this
theorem takeP_size {us : List UInt8} (h : (takeP us).2.2 = true) : (takeP us).1.length ≤ 64 ∧ (pinsBs (takeP us).1).length ≤ 4000 := by
  have h1 := takeP_ok h
  have h2 := pinsL_size (takeI us).2.1 (takeI us).1.toNat
  have h3 := pinsL_len (takeI us).2.1 (takeI us).1.toNat
  exact ⟨by show (pinsL _ _).1.length ≤ _; rw [h3]; omega, by show (pinsBs (pinsL _ _).1).length ≤ _; omega⟩
/-- The parts of what is read. -/
theorem parse_parts (us : List UInt8) : ∃ (X0 : Int × List UInt8 × Bool) (X1 : Int × List UInt8 × Bool) (X2 : ByteArray × List UInt8 × Bool) (X3 : Int × List UInt8 × Bool) (X4 : Int × List UInt8 × Bool) (X5 : Int × List UInt8 × Bool) (X6 : Int × List UInt8 × Bool) (X7 : Int × List UInt8 × Bool) (X8 : List Int × List UInt8 × Bool) (X9 : List PinD × List UInt8 × Bool) (X10 : ByteArray × List UInt8 × Bool) (X11 : Int × List UInt8 × Bool) (X12 : ByteArray × List UInt8 × Bool), X0 = takeI us ∧ X1 = takeI X0.2.1 ∧ X2 = takeS X1.2.1 32 ∧ X3 = takeI X2.2.1 ∧ X4 = takeI X3.2.1 ∧ X5 = takeI X4.2.1 ∧ X6 = takeI X5.2.1 ∧ X7 = takeI X6.2.1 ∧ X8 = takeL X7.2.1 64 ∧ X9 = takeP X8.2.1 ∧ X10 = takeS X9.2.1 4096 ∧ X11 = takeI X10.2.1 ∧ X12 = takeS X11.2.1 32 ∧ parse us = (⟨X0.1, X1.1, X2.1, X3.1, X4.1, X5.1, X6.1, X7.1, X8.1, X9.1, X10.1, X11.1, X12.1⟩, X12.2.1, X0.2.2 && X1.2.2 && X2.2.2 && X3.2.2 && X4.2.2 && X5.2.2 && X6.2.2 && X7.2.2 && X8.2.2 && X9.2.2 && X10.2.2 && X11.2.2 && X12.2.2) :=
  ⟨_, _, _, _, _, _, _, _, _, _, _, _, _, rfl, rfl, rfl, rfl, rfl, rfl, rfl, rfl, rfl, rfl, rfl, rfl, rfl, rfl⟩
/-- What bytes say is not much. -/
theorem parse_small {us : List UInt8} (h : (parse us).2.2 = true) : Small (parse us).1 ∧ (parse us).1.list.length ≤ 64 ∧ (parse us).1.pins.length ≤ 64 := by
  obtain ⟨X0, X1, X2, X3, X4, X5, X6, X7, X8, X9, X10, X11, X12, h0, h1, h2, h3, h4, h5, h6, h7, h8, h9, h10, h11, h12, hp⟩ := parse_parts us
  rw [hp] at h ⊢
  simp only [Bool.and_eq_true] at h
  have k9 : X9.2.2 = true := h.1.1.1.2
  have z2 := takeS_size X1.2.1 32 (by omega)
  have z8 := takeL_size X7.2.1 64 (by omega)
  rw [h9] at k9
  have z9 := takeP_size k9
  have z10 := takeS_size X9.2.1 4096 (by omega)
  have z12 := takeS_size X11.2.1 32 (by omega)
  rw [← h2] at z2; rw [← h8] at z8; rw [← h9] at z9; rw [← h10] at z10; rw [← h12] at z12
  clear h k9 hp h0 h1 h2 h3 h4 h5 h6 h7 h8 h9 h10 h11 h12
  exact ⟨⟨by simp only; omega, by simp only; omega, by simp only; omega, by simp only; omega, by simp only; omega, by simp only; omega⟩, by simp only; omega, z9.1⟩
def DecR (w : World) (s : Stm) (E : Int) (e : Ending) (w' : World) : Prop :=
  ∃ A n c B m k, e = .returned (.tuple #[stmV s A n c B m k, .int .i64 E]) ∧ IRow w' A n c s.list ∧ PRow w' B m k s.pins ∧ Below w.heap.size w w'
/-- The same, and where the lists lie: in blocks that the call has made. -/
def DecN (w : World) (s : Stm) (E : Int) (e : Ending) (w' : World) : Prop :=
  ∃ A n c B m k, e = .returned (.tuple #[stmV s A n c B m k, .int .i64 E]) ∧ IRow w' A n c s.list ∧ PRow w' B m k s.pins ∧ (∀ ad, A = some ad → w.heap.size < ad.block) ∧ (∀ ad, B = some ad → w.heap.size < ad.block) ∧ Below w.heap.size w w'
theorem DecN.dec {w w' : World} {s : Stm} {E : Int} {e : Ending} (h : DecN w s E e w') : DecR w s E e w' := by
  obtain ⟨A, n, c, B, m, k, he, h1, h2, -, -, h5⟩ := h
  exact ⟨A, n, c, B, m, k, he, h1, h2, h5⟩
noncomputable def decOk (us : List UInt8) : Bool := readOk us && decide (checkV (readS us) = 0) && sealedB (readS us)
noncomputable def decS (us : List UInt8) : Stm := if decOk us = true then readS us else zeroS
noncomputable def decE (us : List UInt8) : Int := if decOk us = true then 0 else 1
theorem results_dec {tmps : Array Value} {w : World} {s : Nat} {cs : Array Value} {v : Value} (h2 : tmps.getD 2 undef = .pointer (some ⟨s, 0, none⟩)) (h3 : tmps.getD 3 undef = v)
    (hs : w.heap[s]? = some (.cells cs 27 (0, 0))) (hz : cs.size = 13) :
    (results Tryz.f59 tmps).run Tryz.prog w = .ok (.tuple #[.agg cs, v]) w := by
  have hr : Tryz.f59.results = #[.cell 2 27, .tmp 3] := rfl
  have h2' : tmps[2]?.getD undef = .pointer (some ⟨s, 0, none⟩) := by simpa using h2
  have h3' : tmps[3]?.getD undef = v := by simpa using h3
  have hl := run_loadVar_row (P := Tryz.prog) w s 27 27 cs (0, 0) _ hs Tryz.underlying27 rfl (by rw [hz]; kernel_rfl)
  unfold results
  rw [hr]
  simp [h2', h3', asAddr, hl]
set_option maxRecDepth 100000 in
set_option maxHeartbeats 2000000 in
theorem decode_new (A : Option Addr) (n c : Nat) (us : List UInt8) (w : World) (hr : BRow w A n c us) (hn : n ≤ 900000) (hR : Rounds w) :
    Calls Tryz.prog 59 #[.slice A n c] w (DecN w (decS us) (decE us)) := by
  have HRD := Lib.hid (read_any A n c us (w.alloc (.cells #[.int .i64 0, .int .i64 0, .string ⟨#[]⟩, .int .i64 0, .int .i64 0, .int .i64 0, .int .i64 0, .int .i64 0, .slice none 0 0, .slice none 0 0, .string ⟨#[]⟩, .int .i64 0, .string ⟨#[]⟩] 27)) (Row.later hr (one_new w _)) hn)
  have HRO := Lib.hid hR
  have HSM : Hid (readOk us = true → Small (readS us) ∧ (readS us).list.length ≤ 64 ∧ (readS us).pins.length ≤ 64) := Lib.hid fun h => by
    have h2 : (parse us).2.2 = true := by unfold readOk at h; simp only [Bool.and_eq_true] at h; exact h.1
    unfold readS; rw [if_pos h]; exact parse_small h2
  have HOK : Hid (decOk us = (readOk us && decide (checkV (readS us) = 0) && sealedB (readS us))) := Lib.hid rfl
  have HDS : Hid (decS us = if decOk us = true then readS us else zeroS) := Lib.hid rfl
  have HDE : Hid (decE us = if decOk us = true then 0 else 1) := Lib.hid rfl
  clear hr hR
  generalize decS us = DS at HDS ⊢
  generalize decE us = DE at HDE ⊢
  generalize decOk us = OK at HOK HDS HDE
  generalize readS us = s at HRD HSM HOK HDS
  generalize readOk us = ok at HRD HSM HOK
  have hq0 := heap_alloc_new w (.cells #[.int .i64 0, .int .i64 0, .string ⟨#[]⟩, .int .i64 0, .int .i64 0, .int .i64 0, .int .i64 0, .int .i64 0, .slice none 0 0, .slice none 0 0, .string ⟨#[]⟩, .int .i64 0, .string ⟨#[]⟩] 27)
  have HQ0 := Lib.hid hq0; clear hq0
  go_enter Tryz.func59, Tryz.ntmps59
  go_wp2_with fail
  refine HRD.out.mono ?_
  rintro e y1 ⟨A1, n1, c1, B1, m1, k1, rfl, hl, hp, hna, hnb, hb⟩
  have HNA : Hid (∀ ad, A1 = some ad → w.heap.size < ad.block) := Lib.hid fun ad hA => by have := (hna ad hA).1; simp at this; omega
  have HNB : Hid (∀ ad, B1 = some ad → w.heap.size < ad.block) := Lib.hid fun ad hA => by have := (hnb ad hA).1; simp at this; omega
  clear hna hnb
  have HB1 := Lib.hid ((one_new w (.cells #[.int .i64 0, .int .i64 0, .string ⟨#[]⟩, .int .i64 0, .int .i64 0, .int .i64 0, .int .i64 0, .int .i64 0, .slice none 0 0, .slice none 0 0, .string ⟨#[]⟩, .int .i64 0, .string ⟨#[]⟩] 27)).trans (hb.mono (by simp))); have HQ1 := Lib.hid ((hb.block w.heap.size (by simp)).trans HQ0.out); have HL1 := Lib.hid hl; have HP1 := Lib.hid hp
  have HZ1 : Hid (w.heap.size < y1.heap.size) := Lib.hid (by have := hb.size; simp at this; omega)
  have hln := hl.len; have hpn := hp.len
  clear hb hl hp HRD HQ0
  have HCK : Hid (ok = true → ∀ y, Below y1.heap.size y1 y → Calls Tryz.prog 53 #[stmV s A1 n1 c1 B1 m1 k1] y (SaysL (.int .i64 (checkV s)) y)) := Lib.hid fun h y hy => check_any s A1 n1 c1 B1 m1 k1 y (HL1.out.later hy) (HP1.out.later hy) (by have := (HSM.out h).2.1; omega) (by have := (HSM.out h).2.2; omega) (by have := (HSM.out h).1.body; omega)
  have HSL : Hid (ok = true → ∀ y, Below y1.heap.size y1 y → Calls Tryz.prog 54 #[stmV s A1 n1 c1 B1 m1 k1] y (SaysL (.bool (sealedB s)) y)) := Lib.hid fun h y hy => sealed_any s A1 n1 c1 B1 m1 k1 y (HL1.out.later hy) (HP1.out.later hy) (HSM.out h).1 (HRO.out.later (HB1.out.trans (hy.mono HB1.out.size)))
  clear hln hpn HSM
  generalize checkV s = cv at HOK HCK
  generalize sealedB s = sv at HOK HSL
  obtain ⟨sa, sn, sp, st, sk, s5, s6, s7, sl, spn, s10, s11, s12⟩ := s
  unfold stmV at HCK HSL ⊢
  simp only at HL1 HP1 HCK HSL
  cases ok
  · have HV : Hid (OK = false) := by unfold Hid; rw [HOK.out]; rfl
    go_wp2_with (refine wpList_store_row rfl 27 (.tmp 2) (.tmp 23) rfl w.heap.size zeroA rfl rfl 27 _ ((Below.heap_alloc _ _ _ HZ1.out).trans HQ1.out) (by kernel_rfl) rfl (by simp [Value.oneCell', zeroA]) ?_)
    refine bodyPost_ret (results_dec rfl rfl (setRow_heap _ _ _ zeroA _ _ ((Below.heap_alloc y1 (.cells #[.int .i64 sa, .int .i64 sn, .string sp, .int .i64 st, .int .i64 sk, .int .i64 s5, .int .i64 s6, .int .i64 s7, .slice A1 n1 c1, .slice B1 m1 k1, .string s10, .int .i64 s11, .string s12] 27) _ HZ1.out).trans HQ1.out)) rfl) rfl ⟨none, 0, 0, none, 0, 0, by rw [HDS.out, HDE.out, HV.out]; rfl, by rw [HDS.out, HV.out]; exact Row.nilRow _ _, by rw [HDS.out, HV.out]; exact Row.nilRow _ _, (fun _ h => by cases h), (fun _ h => by cases h), below_setRow (HB1.out.alloc HB1.out.size _) (Nat.le_refl _) _⟩
  · have HZ2 : Hid (y1.heap.size < (y1.alloc (.cells #[.int .i64 sa, .int .i64 sn, .string sp, .int .i64 st, .int .i64 sk, .int .i64 s5, .int .i64 s6, .int .i64 s7, .slice A1 n1 c1, .slice B1 m1 k1, .string s10, .int .i64 s11, .string s12] 27)).heap.size) := Lib.hid (by simp)
    have HX2 := Lib.hid (heap_alloc_new y1 (.cells #[.int .i64 sa, .int .i64 sn, .string sp, .int .i64 st, .int .i64 sk, .int .i64 s5, .int .i64 s6, .int .i64 s7, .slice A1 n1 c1, .slice B1 m1 k1, .string s10, .int .i64 s11, .string s12] 27)); have HQ2 := Lib.hid ((Below.heap_alloc y1 (.cells #[.int .i64 sa, .int .i64 sn, .string sp, .int .i64 st, .int .i64 sk, .int .i64 s5, .int .i64 s6, .int .i64 s7, .slice A1 n1 c1, .slice B1 m1 k1, .string s10, .int .i64 s11, .string s12] 27) _ HZ1.out).trans HQ1.out); have HB2 := Lib.hid (HB1.out.alloc HB1.out.size (.cells #[.int .i64 sa, .int .i64 sn, .string sp, .int .i64 st, .int .i64 sk, .int .i64 s5, .int .i64 s6, .int .i64 s7, .slice A1 n1 c1, .slice B1 m1 k1, .string s10, .int .i64 s11, .string s12] 27)); have HL2 := Lib.hid (HL1.out.later (one_new y1 (.cells #[.int .i64 sa, .int .i64 sn, .string sp, .int .i64 st, .int .i64 sk, .int .i64 s5, .int .i64 s6, .int .i64 s7, .slice A1 n1 c1, .slice B1 m1 k1, .string s10, .int .i64 s11, .string s12] 27))); have HP2 := Lib.hid (HP1.out.later (one_new y1 (.cells #[.int .i64 sa, .int .i64 sn, .string sp, .int .i64 st, .int .i64 sk, .int .i64 s5, .int .i64 s6, .int .i64 s7, .slice A1 n1 c1, .slice B1 m1 k1, .string s10, .int .i64 s11, .string s12] 27))); have HN2 := Lib.hid (one_new y1 (.cells #[.int .i64 sa, .int .i64 sn, .string sp, .int .i64 st, .int .i64 sk, .int .i64 s5, .int .i64 s6, .int .i64 s7, .slice A1 n1 c1, .slice B1 m1 k1, .string s10, .int .i64 s11, .string s12] 27))
    go_wp2_with fail
    refine (HCK.out (by first | rfl | trivial) _ HN2.out).mono ?_
    generalize y1.alloc (.cells #[.int .i64 sa, .int .i64 sn, .string sp, .int .i64 st, .int .i64 sk, .int .i64 s5, .int .i64 s6, .int .i64 s7, .slice A1 n1 c1, .slice B1 m1 k1, .string s10, .int .i64 s11, .string s12] 27) = y2 at HZ2 HX2 HQ2 HB2 HL2 HP2 HN2 ⊢
    rintro e y3 ⟨rfl, hb⟩
    have HX3 := Lib.hid ((hb.block _ HZ2.out).trans HX2.out); have HQ3 := Lib.hid ((hb.block w.heap.size (by have := HZ1.out; have := HZ2.out; omega)).trans HQ2.out); have HB3 := Lib.hid (HB2.out.trans (hb.mono HB2.out.size)); have HL3 := Lib.hid (HL2.out.later hb); have HP3 := Lib.hid (HP2.out.later hb); have HN3 := Lib.hid (HN2.out.trans (hb.mono HN2.out.size)); have HZ3 : Hid (y1.heap.size < y3.heap.size) := Lib.hid (Nat.lt_of_lt_of_le HZ2.out hb.size)
    clear hb HX2 HQ2 HB2 HL2 HP2 HN2 HCK HL1 HP1 HQ1
    by_cases h0 : cv = 0
    · subst h0
      obtain ⟨hc0, hc1, hc2, hc3, hc4, hc5, hc6, hc7, hc8, hc9, hc10, hc11, hc12⟩ := stm_cells (A := A1) (n := n1) (c := c1) (B := B1) (m := m1) (k := k1) (s := ⟨sa, sn, sp, st, sk, s5, s6, s7, sl, spn, s10, s11, s12⟩) HX3.out
      go_wp2_with fail
      refine (HSL.out (by first | rfl | trivial) _ HN3.out).mono ?_
      rintro e y4 ⟨rfl, hb⟩
      have HX4 := Lib.hid ((hb.block _ HZ3.out).trans HX3.out); have HQ4 := Lib.hid ((hb.block w.heap.size (by have := HZ1.out; have := HZ3.out; omega)).trans HQ3.out); have HB4 := Lib.hid (HB3.out.trans (hb.mono HB3.out.size)); have HL4 := Lib.hid (HL3.out.later hb); have HP4 := Lib.hid (HP3.out.later hb)
      clear hb HX3 HQ3 HB3 HL3 HP3 HN3 hc0 hc1 hc2 hc3 hc4 hc5 hc6 hc7 hc8 hc9 hc10 hc11 hc12
      cases sv
      · have HV : Hid (OK = false) := by unfold Hid; rw [HOK.out]; rfl
        go_wp2_with (refine wpList_store_row rfl 27 (.tmp 2) (.tmp 23) rfl w.heap.size zeroA rfl rfl 27 _ HQ4.out (by kernel_rfl) rfl (by simp [Value.oneCell', zeroA]) ?_)
        refine bodyPost_ret (results_dec rfl rfl (setRow_heap _ _ _ zeroA _ _ HQ4.out) rfl) rfl ⟨none, 0, 0, none, 0, 0, by rw [HDS.out, HDE.out, HV.out]; rfl, by rw [HDS.out, HV.out]; exact Row.nilRow _ _, by rw [HDS.out, HV.out]; exact Row.nilRow _ _, (fun _ h => by cases h), (fun _ h => by cases h), below_setRow HB4.out (Nat.le_refl _) _⟩
      · have HV : Hid (OK = true) := by unfold Hid; rw [HOK.out]; rfl
        obtain ⟨hc0, hc1, hc2, hc3, hc4, hc5, hc6, hc7, hc8, hc9, hc10, hc11, hc12⟩ := stm_cells (A := A1) (n := n1) (c := c1) (B := B1) (m := m1) (k := k1) (s := ⟨sa, sn, sp, st, sk, s5, s6, s7, sl, spn, s10, s11, s12⟩) HX4.out
        go_wp2_with (refine wpList_store_row rfl 27 (.tmp 2) (.tmp 24) rfl w.heap.size #[.int .i64 sa, .int .i64 sn, .string sp, .int .i64 st, .int .i64 sk, .int .i64 s5, .int .i64 s6, .int .i64 s7, .slice A1 n1 c1, .slice B1 m1 k1, .string s10, .int .i64 s11, .string s12] rfl rfl 27 _ HQ4.out (by kernel_rfl) rfl (by simp [Value.oneCell']) ?_)
        refine bodyPost_ret (results_dec rfl rfl (setRow_heap _ _ _ #[.int .i64 sa, .int .i64 sn, .string sp, .int .i64 st, .int .i64 sk, .int .i64 s5, .int .i64 s6, .int .i64 s7, .slice A1 n1 c1, .slice B1 m1 k1, .string s10, .int .i64 s11, .string s12] _ _ HQ4.out) rfl) rfl ⟨A1, n1, c1, B1, m1, k1, by rw [HDS.out, HDE.out, HV.out]; rfl, ?_, ?_, HNA.out, HNB.out, below_setRow HB4.out (Nat.le_refl _) _⟩
        · rw [HDS.out, HV.out]; exact Row.keep HL4.out fun ad hA _ _ => setRow_other _ _ _ _ (Nat.ne_of_gt (HNA.out ad hA))
        · rw [HDS.out, HV.out]; exact Row.keep HP4.out fun ad hA _ _ => setRow_other _ _ _ _ (Nat.ne_of_gt (HNB.out ad hA))
    · have g1 : (cv == 0) = false := by simpa using h0
      have HV : Hid (OK = false) := by unfold Hid; rw [HOK.out]; simp [h0]
      go_wp2_with (refine wpList_store_row rfl 27 (.tmp 2) (.tmp 23) rfl w.heap.size zeroA rfl rfl 27 _ HQ3.out (by kernel_rfl) rfl (by simp [Value.oneCell', zeroA]) ?_)
      refine bodyPost_ret (results_dec rfl rfl (setRow_heap _ _ _ zeroA _ _ HQ3.out) rfl) rfl ⟨none, 0, 0, none, 0, 0, by rw [HDS.out, HDE.out, HV.out]; rfl, by rw [HDS.out, HV.out]; exact Row.nilRow _ _, by rw [HDS.out, HV.out]; exact Row.nilRow _ _, (fun _ h => by cases h), (fun _ h => by cases h), below_setRow HB3.out (Nat.le_refl _) _⟩
theorem decode_any (A : Option Addr) (n c : Nat) (us : List UInt8) (w : World) (hr : BRow w A n c us) (hn : n ≤ 900000) (hR : Rounds w) :
    Calls Tryz.prog 59 #[.slice A n c] w (DecR w (decS us) (decE us)) :=
  (decode_new A n c us w hr hn hR).mono fun _ _ h => h.dec
end Go.Proofs.YtkglgboncngpbaaGreatDoor
/- What bytes say of evidence: plain facts; a string as bytes. -/
namespace Go.Proofs.YtkglgboncngpbaaGreatDoor
open Go.RowKit
/-- '[]byte(s)': a slice that reads as the string's bytes. -/
theorem str_row (w : World) (s : ByteArray) : ∃ A c w', (convert 9 30 (.string s)).run Tryz.prog w = .ok (.slice A s.size c) w' ∧ BRow w' A s.size c s.data.toList ∧ Below w.heap.size w w' := by
  refine ⟨_, _, _, run_bytes_of_string w _ _ _ s Tryz.underlying9 Tryz.underlying30 Tryz.underlying5, ?_, (Below.refl _ _).drew.alloc (Nat.le_refl _) _⟩
  refine ⟨by rw [bytesV_len, str_len, Nat.mul_one], grownCap_ge _ _ _ _, fun e => (by cases e), fun ad e _ => ?_⟩
  injection e with e; subst e
  refine ⟨w.heap.size, 0, rfl, fun i hi => ?_⟩
  rw [Nat.mul_one] at hi
  have h1 : ∀ (C : Array Value) (t : TypeId) (fr : Nat × Nat), (w.drew.alloc (.cells C t fr)).cell? ⟨w.heap.size, 0 + i, none⟩ = C[0 + i]? := fun C t fr => cell_of_row _ _ _ _ _ _ (heap_alloc_new w.drew (.cells C t fr))
  rw [h1, Nat.zero_add, bytesV, List.getElem?_map]
  unfold bytesRow
  rw [Array.getElem?_append_left (by simpa using hi), Array.getElem?_map]
  obtain ⟨⟨l⟩⟩ := s
  simp only [List.getElem?_toArray]
  cases l[i]? <;> rfl
theorem takeS_more (us : List UInt8) (most : Int) (h : (us.length : Int) ≤ most) : takeS us most = takeS us (us.length : Int) := by
  have hiff : CountOk us most 1 ↔ CountOk us (us.length : Int) 1 := by
    constructor
    · intro k; exact ⟨k.len, k.nn, by have := k.fit; have := k.len; rw [Nat.div_one] at *; omega, k.fit⟩
    · intro k; exact ⟨k.len, k.nn, by have := k.le; omega, k.fit⟩
  unfold takeS
  by_cases k : CountOk us most 1
  · rw [if_pos k, if_pos (hiff.1 k)]
  · rw [if_neg k, if_neg (fun x => k (hiff.2 x))]
/-- What is taken, however much there is. -/
noncomputable def takeA (us : List UInt8) : ByteArray × List UInt8 × Bool := takeS us (us.length : Int)
theorem takeA_size (us : List UInt8) : (takeA us).1.size ≤ us.length := by
  have := takeS_size us (us.length : Int) (by omega)
  unfold takeA; omega
theorem takeA_le (us : List UInt8) : (takeA us).2.1.length ≤ us.length := takeS_le us _
/-- Whether bytes are those of evidence, and of which. -/
noncomputable def okF (us : List UInt8) : Bool :=
  (takeA us).2.2 && (decOk (takeA us).1.data.toList && ((takeA (takeA us).2.1).2.2 && (decOk (takeA (takeA us).2.1).1.data.toList && (decide ((takeA (takeA us).2.1).2.1.length = 0) && twoB (decS (takeA us).1.data.toList) (decS (takeA (takeA us).2.1).1.data.toList)))))
noncomputable def decF1 (us : List UInt8) : Stm := if okF us = true then decS (takeA us).1.data.toList else zeroS
noncomputable def decF2 (us : List UInt8) : Stm := if okF us = true then decS (takeA (takeA us).2.1).1.data.toList else zeroS
noncomputable def decFE (us : List UInt8) : Int := if okF us = true then 0 else 1
/-- What Decode gives. -/
def DecF (w : World) (s t : Stm) (E : Int) (e : Ending) (w' : World) : Prop :=
  ∃ A n c B m k A2 n2 c2 B2 m2 k2, e = .returned (.tuple #[forkV s A n c B m k t A2 n2 c2 B2 m2 k2, .int .i64 E]) ∧ IRow w' A n c s.list ∧ PRow w' B m k s.pins ∧ IRow w' A2 n2 c2 t.list ∧ PRow w' B2 m2 k2 t.pins ∧ Below w.heap.size w w'
theorem DecF.zero {w w' : World} (hb : Below w.heap.size w w') : DecF w zeroS zeroS 1 (.returned (.tuple #[.agg #[.int .i64 0, .int .i64 0, .string ⟨#[]⟩, .int .i64 0, .int .i64 0, .int .i64 0, .int .i64 0, .int .i64 0, .slice none 0 0, .slice none 0 0, .string ⟨#[]⟩, .int .i64 0, .string ⟨#[]⟩, .int .i64 0, .int .i64 0, .string ⟨#[]⟩, .int .i64 0, .int .i64 0, .int .i64 0, .int .i64 0, .int .i64 0, .slice none 0 0, .slice none 0 0, .string ⟨#[]⟩, .int .i64 0, .string ⟨#[]⟩], .int .i64 1])) w' :=
  ⟨none, 0, 0, none, 0, 0, none, 0, 0, none, 0, 0, rfl, Row.nilRow _ _, Row.nilRow _ _, Row.nilRow _ _, Row.nilRow _ _, hb⟩
theorem results_fdec {tmps : Array Value} {w : World} {s : Nat} {cs : Array Value} {v : Value} (h2 : tmps.getD 2 undef = .pointer (some ⟨s, 0, none⟩)) (h3 : tmps.getD 3 undef = v)
    (hs : w.heap[s]? = some (.cells cs 29 (0, 0))) (hz : cs.size = 26) :
    (results Tryz.f32 tmps).run Tryz.prog w = .ok (.tuple #[.agg cs, v]) w := by
  have hr : Tryz.f32.results = #[.cell 2 29, .tmp 3] := rfl
  have h2' : tmps[2]?.getD undef = .pointer (some ⟨s, 0, none⟩) := by simpa using h2
  have h3' : tmps[3]?.getD undef = v := by simpa using h3
  have hl := run_loadVar_row (P := Tryz.prog) w s 29 29 cs (0, 0) _ hs Tryz.underlying29 rfl (by rw [hz]; kernel_rfl)
  unfold results
  rw [hr]
  simp [h2', h3', asAddr, hl]
theorem decOk_parts {us : List UInt8} (h : decOk us = true) : checkV (decS us) = 0 ∧ sealedB (decS us) = true := by
  unfold decS
  rw [if_pos h]
  unfold decOk at h
  simp only [Bool.and_eq_true, decide_eq_true_eq] at h
  exact ⟨h.1.2, h.2⟩
end Go.Proofs.YtkglgboncngpbaaGreatDoor
/- The walk of fork.Decode. -/
namespace Go.Proofs.YtkglgboncngpbaaGreatDoor
open Go.RowKit
set_option maxRecDepth 100000 in
set_option maxHeartbeats 4000000 in
theorem fkDecode_any (A : Option Addr) (n c : Nat) (us : List UInt8) (w : World) (hr : BRow w A n c us) (hn : n ≤ 900000) (hR : Rounds w) :
    Calls Tryz.prog 32 #[.slice A n c] w (DecF w (decF1 us) (decF2 us) (decFE us)) := by
  have hus : us.length ≤ 900000 := by rw [hr.len]; exact hn
  have HT1 : Hid (∀ w', Below w.heap.size w w' → Calls Tryz.prog 58 #[.slice A n c, .int .i64 (n : Int)] w' (SubS w' A (takeA us))) := Lib.hid fun w' h => by
    have h1 := takeS_sub A n c us (us.length : Int) w' (hr.later h) (by omega)
    rw [hr.len] at h1
    unfold takeA; rw [hr.len]; exact h1
  have HT2 : Hid (∀ w' A2 n2 c2, BRow w' A2 n2 c2 (takeA us).2.1 → Calls Tryz.prog 58 #[.slice A2 n2 c2, .int .i64 (n2 : Int)] w' (SomeS w' (takeA (takeA us).2.1))) := Lib.hid fun w' A2 n2 c2 h => by
    have h1 := takeText_any A2 n2 c2 (takeA us).2.1 ((takeA us).2.1.length : Int) w' h (by rw [← h.len]; have := takeA_le us; omega)
    rw [h.len] at h1
    show Calls _ _ _ _ (SomeS w' (takeS (takeA us).2.1 ((takeA us).2.1.length : Int)))
    rw [h.len]; exact h1
  have HZ1 : Hid ((takeA us).1.size ≤ 900000 ∧ (takeA (takeA us).2.1).1.size ≤ 900000) := Lib.hid ⟨by have := takeA_size us; omega, by have := takeA_size (takeA us).2.1; have := takeA_le us; omega⟩
  have HLO : Hid (∀ ad, A = some ad → 0 < n → ad.block < w.heap.size) := Lib.hid fun ad hA h0 => Row.lt hr (by omega) ad hA h0
  have HLE : Hid ((takeA us).2.1.length ≤ n) := Lib.hid (by have := takeA_le us; rw [hr.len] at this; exact this)
  have HDC : Hid (∀ (t : ByteArray) (w' : World) A2 n2 c2, Below w.heap.size w w' → t.size ≤ 900000 → BRow w' A2 n2 c2 t.data.toList → Calls Tryz.prog 59 #[.slice A2 n2 c2] w' (DecN w' (decS t.data.toList) (decE t.data.toList))) := Lib.hid fun t w' A2 n2 c2 h hz hb => decode_new A2 n2 c2 _ w' hb (by rw [← hb.len, str_len]; exact hz) (hR.later h)
  have HOK : Hid (okF us = ((takeA us).2.2 && (decOk (takeA us).1.data.toList && ((takeA (takeA us).2.1).2.2 && (decOk (takeA (takeA us).2.1).1.data.toList && (decide ((takeA (takeA us).2.1).2.1.length = 0) && twoB (decS (takeA us).1.data.toList) (decS (takeA (takeA us).2.1).1.data.toList))))))) := Lib.hid rfl
  have HF1 : Hid (decF1 us = if okF us = true then decS (takeA us).1.data.toList else zeroS) := Lib.hid rfl
  have HF2 : Hid (decF2 us = if okF us = true then decS (takeA (takeA us).2.1).1.data.toList else zeroS) := Lib.hid rfl
  have HFE : Hid (decFE us = if okF us = true then 0 else 1) := Lib.hid rfl
  generalize decF1 us = G1 at HF1 ⊢
  generalize decF2 us = G2 at HF2 ⊢
  generalize decFE us = GE at HFE ⊢
  generalize okF us = OK at HOK HF1 HF2 HFE
  generalize takeA (takeA us).2.1 = T2 at HT2 HZ1 HOK HF2
  generalize takeA us = T1 at HT1 HT2 HZ1 HOK HF1 HLE
  obtain ⟨t1, r1, k1⟩ := T1
  obtain ⟨t2, r2, k2⟩ := T2
  simp only at HT1 HT2 HZ1 HOK HF1 HF2 HLE
  have HD1 := Lib.hid (fun w' A2 n2 c2 h hb => HDC.out t1 w' A2 n2 c2 h HZ1.out.1 hb)
  have HD2 := Lib.hid (fun w' A2 n2 c2 h hb => HDC.out t2 w' A2 n2 c2 h HZ1.out.2 hb)
  clear HDC HZ1 hr hn hR hus
  have HE1 : Hid (decE t1.data.toList = if decOk t1.data.toList = true then 0 else 1) := Lib.hid rfl
  have HE2 : Hid (decE t2.data.toList = if decOk t2.data.toList = true then 0 else 1) := Lib.hid rfl
  generalize decS t1.data.toList = S1 at HD1 HOK HF1
  generalize decS t2.data.toList = S2 at HD2 HOK HF2
  generalize decE t1.data.toList = e1 at HE1 HD1
  generalize decE t2.data.toList = e2 at HE2 HD2
  generalize decOk t1.data.toList = d1 at HE1 HOK
  generalize decOk t2.data.toList = d2 at HE2 HOK
  have HB : Hid (Below w.heap.size w ((w.alloc (.cells #[.int .i64 0, .int .i64 0, .string ⟨#[]⟩, .int .i64 0, .int .i64 0, .int .i64 0, .int .i64 0, .int .i64 0, .slice none 0 0, .slice none 0 0, .string ⟨#[]⟩, .int .i64 0, .string ⟨#[]⟩, .int .i64 0, .int .i64 0, .string ⟨#[]⟩, .int .i64 0, .int .i64 0, .int .i64 0, .int .i64 0, .int .i64 0, .slice none 0 0, .slice none 0 0, .string ⟨#[]⟩, .int .i64 0, .string ⟨#[]⟩] 29)).alloc (.cells #[.int .i64 0, .int .i64 0, .string ⟨#[]⟩, .int .i64 0, .int .i64 0, .int .i64 0, .int .i64 0, .int .i64 0, .slice none 0 0, .slice none 0 0, .string ⟨#[]⟩, .int .i64 0, .string ⟨#[]⟩, .int .i64 0, .int .i64 0, .string ⟨#[]⟩, .int .i64 0, .int .i64 0, .int .i64 0, .int .i64 0, .int .i64 0, .slice none 0 0, .slice none 0 0, .string ⟨#[]⟩, .int .i64 0, .string ⟨#[]⟩] 84))) := Lib.hid ((one_new w _).trans ((one_new _ _).mono (by simp)))
  have HX : Hid (((w.alloc (.cells #[.int .i64 0, .int .i64 0, .string ⟨#[]⟩, .int .i64 0, .int .i64 0, .int .i64 0, .int .i64 0, .int .i64 0, .slice none 0 0, .slice none 0 0, .string ⟨#[]⟩, .int .i64 0, .string ⟨#[]⟩, .int .i64 0, .int .i64 0, .string ⟨#[]⟩, .int .i64 0, .int .i64 0, .int .i64 0, .int .i64 0, .int .i64 0, .slice none 0 0, .slice none 0 0, .string ⟨#[]⟩, .int .i64 0, .string ⟨#[]⟩] 29)).alloc (.cells #[.int .i64 0, .int .i64 0, .string ⟨#[]⟩, .int .i64 0, .int .i64 0, .int .i64 0, .int .i64 0, .int .i64 0, .slice none 0 0, .slice none 0 0, .string ⟨#[]⟩, .int .i64 0, .string ⟨#[]⟩, .int .i64 0, .int .i64 0, .string ⟨#[]⟩, .int .i64 0, .int .i64 0, .int .i64 0, .int .i64 0, .int .i64 0, .slice none 0 0, .slice none 0 0, .string ⟨#[]⟩, .int .i64 0, .string ⟨#[]⟩] 84)).heap[w.heap.size]? = some (.cells #[.int .i64 0, .int .i64 0, .string ⟨#[]⟩, .int .i64 0, .int .i64 0, .int .i64 0, .int .i64 0, .int .i64 0, .slice none 0 0, .slice none 0 0, .string ⟨#[]⟩, .int .i64 0, .string ⟨#[]⟩, .int .i64 0, .int .i64 0, .string ⟨#[]⟩, .int .i64 0, .int .i64 0, .int .i64 0, .int .i64 0, .int .i64 0, .slice none 0 0, .slice none 0 0, .string ⟨#[]⟩, .int .i64 0, .string ⟨#[]⟩] 29 (0, 0))) := Lib.hid ((Below.heap_alloc _ _ _ (by simp)).trans (heap_alloc_new _ _))
  have HY : Hid (((w.alloc (.cells #[.int .i64 0, .int .i64 0, .string ⟨#[]⟩, .int .i64 0, .int .i64 0, .int .i64 0, .int .i64 0, .int .i64 0, .slice none 0 0, .slice none 0 0, .string ⟨#[]⟩, .int .i64 0, .string ⟨#[]⟩, .int .i64 0, .int .i64 0, .string ⟨#[]⟩, .int .i64 0, .int .i64 0, .int .i64 0, .int .i64 0, .int .i64 0, .slice none 0 0, .slice none 0 0, .string ⟨#[]⟩, .int .i64 0, .string ⟨#[]⟩] 29)).alloc (.cells #[.int .i64 0, .int .i64 0, .string ⟨#[]⟩, .int .i64 0, .int .i64 0, .int .i64 0, .int .i64 0, .int .i64 0, .slice none 0 0, .slice none 0 0, .string ⟨#[]⟩, .int .i64 0, .string ⟨#[]⟩, .int .i64 0, .int .i64 0, .string ⟨#[]⟩, .int .i64 0, .int .i64 0, .int .i64 0, .int .i64 0, .int .i64 0, .slice none 0 0, .slice none 0 0, .string ⟨#[]⟩, .int .i64 0, .string ⟨#[]⟩] 84)).heap[w.heap.size + 1]? = some (.cells #[.int .i64 0, .int .i64 0, .string ⟨#[]⟩, .int .i64 0, .int .i64 0, .int .i64 0, .int .i64 0, .int .i64 0, .slice none 0 0, .slice none 0 0, .string ⟨#[]⟩, .int .i64 0, .string ⟨#[]⟩, .int .i64 0, .int .i64 0, .string ⟨#[]⟩, .int .i64 0, .int .i64 0, .int .i64 0, .int .i64 0, .int .i64 0, .slice none 0 0, .slice none 0 0, .string ⟨#[]⟩, .int .i64 0, .string ⟨#[]⟩] 84 (0, 0))) := Lib.hid (heap_alloc2_new _ _ _)
  have HZ : Hid (w.heap.size + 1 < ((w.alloc (.cells #[.int .i64 0, .int .i64 0, .string ⟨#[]⟩, .int .i64 0, .int .i64 0, .int .i64 0, .int .i64 0, .int .i64 0, .slice none 0 0, .slice none 0 0, .string ⟨#[]⟩, .int .i64 0, .string ⟨#[]⟩, .int .i64 0, .int .i64 0, .string ⟨#[]⟩, .int .i64 0, .int .i64 0, .int .i64 0, .int .i64 0, .int .i64 0, .slice none 0 0, .slice none 0 0, .string ⟨#[]⟩, .int .i64 0, .string ⟨#[]⟩] 29)).alloc (.cells #[.int .i64 0, .int .i64 0, .string ⟨#[]⟩, .int .i64 0, .int .i64 0, .int .i64 0, .int .i64 0, .int .i64 0, .slice none 0 0, .slice none 0 0, .string ⟨#[]⟩, .int .i64 0, .string ⟨#[]⟩, .int .i64 0, .int .i64 0, .string ⟨#[]⟩, .int .i64 0, .int .i64 0, .int .i64 0, .int .i64 0, .int .i64 0, .slice none 0 0, .slice none 0 0, .string ⟨#[]⟩, .int .i64 0, .string ⟨#[]⟩] 84)).heap.size) := Lib.hid (by simp)
  go_enter Tryz.func32, Tryz.ntmps32
  go_wp2_with fail
  refine wp_loop_rounds 3 ?_
  rw [rounds_succ]
  generalize (w.alloc (.cells #[.int .i64 0, .int .i64 0, .string ⟨#[]⟩, .int .i64 0, .int .i64 0, .int .i64 0, .int .i64 0, .int .i64 0, .slice none 0 0, .slice none 0 0, .string ⟨#[]⟩, .int .i64 0, .string ⟨#[]⟩, .int .i64 0, .int .i64 0, .string ⟨#[]⟩, .int .i64 0, .int .i64 0, .int .i64 0, .int .i64 0, .int .i64 0, .slice none 0 0, .slice none 0 0, .string ⟨#[]⟩, .int .i64 0, .string ⟨#[]⟩] 29)).alloc (.cells #[.int .i64 0, .int .i64 0, .string ⟨#[]⟩, .int .i64 0, .int .i64 0, .int .i64 0, .int .i64 0, .int .i64 0, .slice none 0 0, .slice none 0 0, .string ⟨#[]⟩, .int .i64 0, .string ⟨#[]⟩, .int .i64 0, .int .i64 0, .string ⟨#[]⟩, .int .i64 0, .int .i64 0, .int .i64 0, .int .i64 0, .int .i64 0, .slice none 0 0, .slice none 0 0, .string ⟨#[]⟩, .int .i64 0, .string ⟨#[]⟩] 84) = y0 at *
  go_wp2_with fail
  refine (HT1.out _ HB.out).mono ?_
  rintro e w1 ⟨A1, n1, c1, rfl, hrow, hsub, hb⟩
  replace HX := Lib.hid ((hb.block _ (by have := HZ.out; omega)).trans HX.out); replace HY := Lib.hid ((hb.block _ HZ.out).trans HY.out); replace HB := Lib.hid (HB.out.trans (hb.mono HB.out.size)); replace HZ : Hid (w.heap.size + 1 < w1.heap.size) := Lib.hid (Nat.lt_of_lt_of_le HZ.out hb.size)
  have HS1 : Hid (∀ ad, A1 = some ad → 0 < n1 → ad.block ≠ w.heap.size + 1) := Lib.hid fun ad hA h0 => by
    obtain ⟨ad0, hA0, he⟩ := hsub ad hA
    have h1 := HLO.out ad0 hA0 (by have h2 := hrow.len; have h3 := HLE.out; simp only at h2; omega)
    omega
  have HR1 := Lib.hid hrow; clear hrow hb hsub
  simp only at HR1 ⊢
  obtain ⟨Ab, cb, wb, hcv, hrow, hb⟩ := str_row w1 t1
  replace HX := Lib.hid ((hb.block _ (by have := HZ.out; omega)).trans HX.out); replace HY := Lib.hid ((hb.block _ HZ.out).trans HY.out); replace HB := Lib.hid (HB.out.trans (hb.mono HB.out.size)); replace HZ : Hid (w.heap.size + 1 < wb.heap.size) := Lib.hid (Nat.lt_of_lt_of_le HZ.out hb.size); replace HR1 := Lib.hid (HR1.out.later hb)
  have HRb := Lib.hid hrow; clear hrow hb
  go_wp2_with fail
  clear hcv
  refine (HD1.out _ _ _ _ HB.out HRb.out).mono ?_
  rintro e w2 ⟨Aa, na, ca, Ba, ma, ka, rfl, hl, hp, hna, hnb, hb⟩
  have HNA : Hid (∀ ad, Aa = some ad → w.heap.size + 1 < ad.block) := Lib.hid fun ad hA => Nat.lt_trans HZ.out (hna ad hA)
  have HNB : Hid (∀ ad, Ba = some ad → w.heap.size + 1 < ad.block) := Lib.hid fun ad hA => Nat.lt_trans HZ.out (hnb ad hA)
  replace HX := Lib.hid ((hb.block _ (by have := HZ.out; omega)).trans HX.out); replace HY := Lib.hid ((hb.block _ HZ.out).trans HY.out)
  replace HB := Lib.hid (HB.out.trans (hb.mono HB.out.size)); replace HZ : Hid (w.heap.size + 1 < w2.heap.size) := Lib.hid (Nat.lt_of_lt_of_le HZ.out hb.size)
  replace HR1 := Lib.hid (HR1.out.later hb)
  have HLA := Lib.hid hl; have HPA := Lib.hid hp; clear hl hp hna hnb hb HRb
  obtain ⟨SA, eA, zA, oA⟩ := one13 S1 Aa na ca Ba ma ka
  rw [eA]
  have HEA := Lib.hid eA; have HZA := Lib.hid zA; have HOA := Lib.hid oA; clear eA zA oA
  have hn := one_new w2 (.cells SA 27)
  replace HX := Lib.hid ((hn.block _ (by have := HZ.out; omega)).trans HX.out); replace HY := Lib.hid ((hn.block _ HZ.out).trans HY.out)
  replace HB := Lib.hid (HB.out.trans (hn.mono HB.out.size)); replace HZ : Hid (w.heap.size + 1 < (w2.alloc (.cells SA 27)).heap.size) := Lib.hid (Nat.lt_of_lt_of_le HZ.out hn.size)
  replace HR1 := Lib.hid (HR1.out.later hn)
  replace HLA := Lib.hid (HLA.out.later hn)
  replace HPA := Lib.hid (HPA.out.later hn)
  have HTA : Hid ((w2.alloc (.cells SA 27)).heap[w2.heap.size]? = some (.cells SA 27 (0, 0))) := Lib.hid (heap_alloc_new _ _)
  clear hn
  obtain ⟨V1, hV1⟩ : ∃ V, ((#[.int .i64 0, .int .i64 0, .string ⟨#[]⟩, .int .i64 0, .int .i64 0, .int .i64 0, .int .i64 0, .int .i64 0, .slice none 0 0, .slice none 0 0, .string ⟨#[]⟩, .int .i64 0, .string ⟨#[]⟩, .int .i64 0, .int .i64 0, .string ⟨#[]⟩, .int .i64 0, .int .i64 0, .int .i64 0, .int .i64 0, .int .i64 0, .slice none 0 0, .slice none 0 0, .string ⟨#[]⟩, .int .i64 0, .string ⟨#[]⟩] : Array Value).toList.take 0 ++ SA.toList ++ (#[.int .i64 0, .int .i64 0, .string ⟨#[]⟩, .int .i64 0, .int .i64 0, .int .i64 0, .int .i64 0, .int .i64 0, .slice none 0 0, .slice none 0 0, .string ⟨#[]⟩, .int .i64 0, .string ⟨#[]⟩, .int .i64 0, .int .i64 0, .string ⟨#[]⟩, .int .i64 0, .int .i64 0, .int .i64 0, .int .i64 0, .int .i64 0, .slice none 0 0, .slice none 0 0, .string ⟨#[]⟩, .int .i64 0, .string ⟨#[]⟩] : Array Value).toList.drop (0 + SA.size)).toArray = V := ⟨_, rfl⟩
  have HV1 := Lib.hid hV1; clear hV1
  cases k1
  · have hOK : OK = false := by rw [HOK.out]; simp
    go_wp2_with (first | (refine wpList_store_new rfl 27 (.tmp 9) (.tmp 27) rfl 27 _ SA rfl rfl (by rw [HZA.out]; kernel_rfl) (by rw [HZA.out]; rfl) HOA.out ?_) | (refine wpList_store_row rfl 29 (.tmp 2) (.tmp 35) rfl w.heap.size #[.int .i64 0, .int .i64 0, .string ⟨#[]⟩, .int .i64 0, .int .i64 0, .int .i64 0, .int .i64 0, .int .i64 0, .slice none 0 0, .slice none 0 0, .string ⟨#[]⟩, .int .i64 0, .string ⟨#[]⟩, .int .i64 0, .int .i64 0, .string ⟨#[]⟩, .int .i64 0, .int .i64 0, .int .i64 0, .int .i64 0, .int .i64 0, .slice none 0 0, .slice none 0 0, .string ⟨#[]⟩, .int .i64 0, .string ⟨#[]⟩] rfl rfl 29 _ HX.out (by kernel_rfl) rfl (by simp [Value.oneCell']) ?_))
    refine bodyPost_ret (results_fdec rfl rfl (setRow_heap _ _ _ #[.int .i64 0, .int .i64 0, .string ⟨#[]⟩, .int .i64 0, .int .i64 0, .int .i64 0, .int .i64 0, .int .i64 0, .slice none 0 0, .slice none 0 0, .string ⟨#[]⟩, .int .i64 0, .string ⟨#[]⟩, .int .i64 0, .int .i64 0, .string ⟨#[]⟩, .int .i64 0, .int .i64 0, .int .i64 0, .int .i64 0, .int .i64 0, .slice none 0 0, .slice none 0 0, .string ⟨#[]⟩, .int .i64 0, .string ⟨#[]⟩] _ _ HX.out) rfl) rfl ?_
    rw [HF1.out, HF2.out, HFE.out, hOK]
    exact DecF.zero (below_setRow HB.out (Nat.le_refl _) _)
  cases d1
  · have hOK : OK = false := by rw [HOK.out]; simp
    obtain rfl : e1 = 1 := HE1.out
    go_wp2_with (first | (refine wpList_store_new rfl 27 (.tmp 9) (.tmp 27) rfl 27 _ SA rfl rfl (by rw [HZA.out]; kernel_rfl) (by rw [HZA.out]; rfl) HOA.out ?_) | (refine wpList_store_row rfl 29 (.tmp 2) (.tmp 35) rfl w.heap.size #[.int .i64 0, .int .i64 0, .string ⟨#[]⟩, .int .i64 0, .int .i64 0, .int .i64 0, .int .i64 0, .int .i64 0, .slice none 0 0, .slice none 0 0, .string ⟨#[]⟩, .int .i64 0, .string ⟨#[]⟩, .int .i64 0, .int .i64 0, .string ⟨#[]⟩, .int .i64 0, .int .i64 0, .int .i64 0, .int .i64 0, .int .i64 0, .slice none 0 0, .slice none 0 0, .string ⟨#[]⟩, .int .i64 0, .string ⟨#[]⟩] rfl rfl 29 _ HX.out (by kernel_rfl) rfl (by simp [Value.oneCell']) ?_))
    refine bodyPost_ret (results_fdec rfl rfl (setRow_heap _ _ _ #[.int .i64 0, .int .i64 0, .string ⟨#[]⟩, .int .i64 0, .int .i64 0, .int .i64 0, .int .i64 0, .int .i64 0, .slice none 0 0, .slice none 0 0, .string ⟨#[]⟩, .int .i64 0, .string ⟨#[]⟩, .int .i64 0, .int .i64 0, .string ⟨#[]⟩, .int .i64 0, .int .i64 0, .int .i64 0, .int .i64 0, .int .i64 0, .slice none 0 0, .slice none 0 0, .string ⟨#[]⟩, .int .i64 0, .string ⟨#[]⟩] _ _ HX.out) rfl) rfl ?_
    rw [HF1.out, HF2.out, HFE.out, hOK]
    exact DecF.zero (below_setRow HB.out (Nat.le_refl _) _)
  obtain rfl : e1 = 0 := HE1.out
  go_wp2_with (first | (refine wpList_store_new rfl 27 (.tmp 9) (.tmp 27) rfl 27 _ SA rfl rfl (by rw [HZA.out]; kernel_rfl) (by rw [HZA.out]; rfl) HOA.out ?_) | (refine wpList_load_row rfl 27 (.tmp 9) rfl w2.heap.size rfl 27 SA (0, 0) _ HTA.out Tryz.underlying27 rfl (by rw [HZA.out]; kernel_rfl) ?_) | (refine wpList_store_part rfl 27 (.tmp 39) (.tmp 37) rfl (w.heap.size + 1) 0 SA rfl rfl 84 #[.int .i64 0, .int .i64 0, .string ⟨#[]⟩, .int .i64 0, .int .i64 0, .int .i64 0, .int .i64 0, .int .i64 0, .slice none 0 0, .slice none 0 0, .string ⟨#[]⟩, .int .i64 0, .string ⟨#[]⟩, .int .i64 0, .int .i64 0, .string ⟨#[]⟩, .int .i64 0, .int .i64 0, .int .i64 0, .int .i64 0, .int .i64 0, .slice none 0 0, .slice none 0 0, .string ⟨#[]⟩, .int .i64 0, .string ⟨#[]⟩] HY.out (by rw [HZA.out]; kernel_rfl) (by rw [HZA.out]; decide) HOA.out V1 HV1.out ?_))
  have hX : ((w2.alloc (.cells SA 27)).setRow (w.heap.size + 1) V1).heap[w.heap.size]? = _ := (setRow_other _ _ _ _ (by omega)).trans HX.out
  have hY : ((w2.alloc (.cells SA 27)).setRow (w.heap.size + 1) V1).heap[w.heap.size + 1]? = some (.cells V1 84 (0, 0)) := setRow_heap _ _ _ V1 _ _ HY.out
  have hB : Below w.heap.size w ((w2.alloc (.cells SA 27)).setRow (w.heap.size + 1) V1) := below_setRow HB.out (by omega) _
  have hZ : w.heap.size + 1 < ((w2.alloc (.cells SA 27)).setRow (w.heap.size + 1) V1).heap.size := by rw [setRow_size]; exact HZ.out
  have hR : BRow ((w2.alloc (.cells SA 27)).setRow (w.heap.size + 1) V1) A1 n1 c1 r1 := Row.keep HR1.out fun ad hA h0 _ => setRow_other _ _ _ _ (HS1.out ad hA h0)
  have hL : IRow ((w2.alloc (.cells SA 27)).setRow (w.heap.size + 1) V1) Aa na ca S1.list := Row.keep HLA.out fun ad hA _ _ => setRow_other _ _ _ _ (Nat.ne_of_gt (HNA.out ad hA))
  have hP : PRow ((w2.alloc (.cells SA 27)).setRow (w.heap.size + 1) V1) Ba ma ka S1.pins := Row.keep HPA.out fun ad hA _ _ => setRow_other _ _ _ _ (Nat.ne_of_gt (HNB.out ad hA))
  replace HX := Lib.hid hX; replace HY := Lib.hid hY; replace HB := Lib.hid hB; replace HZ := Lib.hid hZ; replace HR1 := Lib.hid hR; replace HLA := Lib.hid hL; replace HPA := Lib.hid hP; clear hX hY hB hZ hR hL hP HTA
  generalize ((w2.alloc (.cells SA 27)).setRow (w.heap.size + 1) V1) = y1 at *
  rw [rounds_succ]
  go_wp2_with fail
  refine (HT2.out _ _ _ _ HR1.out).mono ?_
  rintro e w3 ⟨A2, n2, c2, rfl, hrow, hb⟩
  replace HX := Lib.hid ((hb.block _ (by have := HZ.out; omega)).trans HX.out); replace HY := Lib.hid ((hb.block _ HZ.out).trans HY.out)
  replace HB := Lib.hid (HB.out.trans (hb.mono HB.out.size)); replace HZ : Hid (w.heap.size + 1 < w3.heap.size) := Lib.hid (Nat.lt_of_lt_of_le HZ.out hb.size)
  replace HLA := Lib.hid (HLA.out.later hb)
  replace HPA := Lib.hid (HPA.out.later hb)
  have HR2 := Lib.hid hrow; clear hrow hb HR1 HS1
  simp only at HR2 ⊢
  have HLN := Lib.hid HR2.out.len
  obtain ⟨Ad, cd, wd, hcv, hrow, hb⟩ := str_row w3 t2
  replace HX := Lib.hid ((hb.block _ (by have := HZ.out; omega)).trans HX.out); replace HY := Lib.hid ((hb.block _ HZ.out).trans HY.out)
  replace HB := Lib.hid (HB.out.trans (hb.mono HB.out.size)); replace HZ : Hid (w.heap.size + 1 < wd.heap.size) := Lib.hid (Nat.lt_of_lt_of_le HZ.out hb.size)
  replace HLA := Lib.hid (HLA.out.later hb)
  replace HPA := Lib.hid (HPA.out.later hb)
  have HRd := Lib.hid hrow; clear hrow hb HR2
  go_wp2_with fail
  clear hcv
  refine (HD2.out _ _ _ _ HB.out HRd.out).mono ?_
  rintro e w4 ⟨Ac, nc, cc, Bc, mc, kc, rfl, hl, hp, hna, hnb, hb⟩
  have HNC : Hid (∀ ad, Ac = some ad → w.heap.size + 1 < ad.block) := Lib.hid fun ad hA => Nat.lt_trans HZ.out (hna ad hA)
  have HND : Hid (∀ ad, Bc = some ad → w.heap.size + 1 < ad.block) := Lib.hid fun ad hA => Nat.lt_trans HZ.out (hnb ad hA)
  replace HX := Lib.hid ((hb.block _ (by have := HZ.out; omega)).trans HX.out); replace HY := Lib.hid ((hb.block _ HZ.out).trans HY.out)
  replace HB := Lib.hid (HB.out.trans (hb.mono HB.out.size)); replace HZ : Hid (w.heap.size + 1 < w4.heap.size) := Lib.hid (Nat.lt_of_lt_of_le HZ.out hb.size)
  replace HLA := Lib.hid (HLA.out.later hb)
  replace HPA := Lib.hid (HPA.out.later hb)
  have HLC := Lib.hid hl; have HPC := Lib.hid hp; clear hl hp hna hnb hb HRd
  have HTF : Hid (∀ w', Calls Tryz.prog 55 #[forkV S1 Aa na ca Ba ma ka S2 Ac nc cc Bc mc kc] w' (SaysL (.bool (twoB S1 S2)) w')) := Lib.hid fun w' => twoFaced_any _ _ _ _ _ _ _ _ _ _ _ _ _ _ w'
  obtain ⟨SA2, TA, VA, eS, eT, eV, h26⟩ := two26 S1 Aa na ca Ba ma ka S2 Ac nc cc Bc mc kc
  obtain rfl : SA2 = SA := by have h := eS.symm.trans HEA.out; injection h
  rw [eV] at HTF
  rw [eT]
  have H26 := Lib.hid h26; have HEV := Lib.hid eV; have HZT := Lib.hid h26.z2; have HOT := Lib.hid h26.o2
  have HVZ : Hid (V1.size = 26) := Lib.hid (halves rfl h26 HV1.out).1
  have HV2 : Hid ((V1.toList.take 13 ++ TA.toList ++ V1.toList.drop (13 + TA.size)).toArray = VA) := Lib.hid (halves rfl h26 HV1.out).2
  clear eS eT eV h26 HEA HV1
  generalize twoB S1 S2 = tf at HOK HTF
  have hn := one_new w4 (.cells TA 27)
  replace HX := Lib.hid ((hn.block _ (by have := HZ.out; omega)).trans HX.out); replace HY := Lib.hid ((hn.block _ HZ.out).trans HY.out)
  replace HB := Lib.hid (HB.out.trans (hn.mono HB.out.size)); replace HZ : Hid (w.heap.size + 1 < (w4.alloc (.cells TA 27)).heap.size) := Lib.hid (Nat.lt_of_lt_of_le HZ.out hn.size)
  replace HLA := Lib.hid (HLA.out.later hn)
  replace HPA := Lib.hid (HPA.out.later hn)
  replace HLC := Lib.hid (HLC.out.later hn)
  replace HPC := Lib.hid (HPC.out.later hn)
  have HTT : Hid ((w4.alloc (.cells TA 27)).heap[w4.heap.size]? = some (.cells TA 27 (0, 0))) := Lib.hid (heap_alloc_new _ _)
  clear hn
  cases k2
  · have hOK : OK = false := by rw [HOK.out]; simp
    go_wp2_with (first | (refine wpList_store_new rfl 27 (.tmp 9) (.tmp 27) rfl 27 _ TA rfl rfl (by rw [HZT.out]; kernel_rfl) (by rw [HZT.out]; rfl) HOT.out ?_) | (refine wpList_store_row rfl 29 (.tmp 2) (.tmp 35) rfl w.heap.size #[.int .i64 0, .int .i64 0, .string ⟨#[]⟩, .int .i64 0, .int .i64 0, .int .i64 0, .int .i64 0, .int .i64 0, .slice none 0 0, .slice none 0 0, .string ⟨#[]⟩, .int .i64 0, .string ⟨#[]⟩, .int .i64 0, .int .i64 0, .string ⟨#[]⟩, .int .i64 0, .int .i64 0, .int .i64 0, .int .i64 0, .int .i64 0, .slice none 0 0, .slice none 0 0, .string ⟨#[]⟩, .int .i64 0, .string ⟨#[]⟩] rfl rfl 29 _ HX.out (by kernel_rfl) rfl (by simp [Value.oneCell']) ?_))
    refine bodyPost_ret (results_fdec rfl rfl (setRow_heap _ _ _ #[.int .i64 0, .int .i64 0, .string ⟨#[]⟩, .int .i64 0, .int .i64 0, .int .i64 0, .int .i64 0, .int .i64 0, .slice none 0 0, .slice none 0 0, .string ⟨#[]⟩, .int .i64 0, .string ⟨#[]⟩, .int .i64 0, .int .i64 0, .string ⟨#[]⟩, .int .i64 0, .int .i64 0, .int .i64 0, .int .i64 0, .int .i64 0, .slice none 0 0, .slice none 0 0, .string ⟨#[]⟩, .int .i64 0, .string ⟨#[]⟩] _ _ HX.out) rfl) rfl ?_
    rw [HF1.out, HF2.out, HFE.out, hOK]
    exact DecF.zero (below_setRow HB.out (Nat.le_refl _) _)
  cases d2
  · have hOK : OK = false := by rw [HOK.out]; simp
    obtain rfl : e2 = 1 := HE2.out
    go_wp2_with (first | (refine wpList_store_new rfl 27 (.tmp 9) (.tmp 27) rfl 27 _ TA rfl rfl (by rw [HZT.out]; kernel_rfl) (by rw [HZT.out]; rfl) HOT.out ?_) | (refine wpList_store_row rfl 29 (.tmp 2) (.tmp 35) rfl w.heap.size #[.int .i64 0, .int .i64 0, .string ⟨#[]⟩, .int .i64 0, .int .i64 0, .int .i64 0, .int .i64 0, .int .i64 0, .slice none 0 0, .slice none 0 0, .string ⟨#[]⟩, .int .i64 0, .string ⟨#[]⟩, .int .i64 0, .int .i64 0, .string ⟨#[]⟩, .int .i64 0, .int .i64 0, .int .i64 0, .int .i64 0, .int .i64 0, .slice none 0 0, .slice none 0 0, .string ⟨#[]⟩, .int .i64 0, .string ⟨#[]⟩] rfl rfl 29 _ HX.out (by kernel_rfl) rfl (by simp [Value.oneCell']) ?_))
    refine bodyPost_ret (results_fdec rfl rfl (setRow_heap _ _ _ #[.int .i64 0, .int .i64 0, .string ⟨#[]⟩, .int .i64 0, .int .i64 0, .int .i64 0, .int .i64 0, .int .i64 0, .slice none 0 0, .slice none 0 0, .string ⟨#[]⟩, .int .i64 0, .string ⟨#[]⟩, .int .i64 0, .int .i64 0, .string ⟨#[]⟩, .int .i64 0, .int .i64 0, .int .i64 0, .int .i64 0, .int .i64 0, .slice none 0 0, .slice none 0 0, .string ⟨#[]⟩, .int .i64 0, .string ⟨#[]⟩] _ _ HX.out) rfl) rfl ?_
    rw [HF1.out, HF2.out, HFE.out, hOK]
    exact DecF.zero (below_setRow HB.out (Nat.le_refl _) _)
  obtain rfl : e2 = 0 := HE2.out
  go_wp2_with (first | (refine wpList_store_new rfl 27 (.tmp 9) (.tmp 27) rfl 27 _ TA rfl rfl (by rw [HZT.out]; kernel_rfl) (by rw [HZT.out]; rfl) HOT.out ?_) | (refine wpList_load_row rfl 27 (.tmp 9) rfl w4.heap.size rfl 27 TA (0, 0) _ HTT.out Tryz.underlying27 rfl (by rw [HZT.out]; kernel_rfl) ?_) | (refine wpList_store_part rfl 27 (.tmp 39) (.tmp 37) rfl (w.heap.size + 1) 13 TA rfl rfl 84 V1 HY.out (by rw [HZT.out]; kernel_rfl) (by rw [HZT.out]; rw [HVZ.out]; decide) HOT.out VA HV2.out ?_))
  have hX : ((w4.alloc (.cells TA 27)).setRow (w.heap.size + 1) VA).heap[w.heap.size]? = _ := (setRow_other _ _ _ _ (by omega)).trans HX.out
  have hY : ((w4.alloc (.cells TA 27)).setRow (w.heap.size + 1) VA).heap[w.heap.size + 1]? = some (.cells VA 84 (0, 0)) := setRow_heap _ _ _ VA _ _ HY.out
  have hB : Below w.heap.size w ((w4.alloc (.cells TA 27)).setRow (w.heap.size + 1) VA) := below_setRow HB.out (by omega) _
  have hZ : w.heap.size + 1 < ((w4.alloc (.cells TA 27)).setRow (w.heap.size + 1) VA).heap.size := by rw [setRow_size]; exact HZ.out
  have hL : IRow ((w4.alloc (.cells TA 27)).setRow (w.heap.size + 1) VA) Aa na ca S1.list := Row.keep HLA.out fun ad hA _ _ => setRow_other _ _ _ _ (Nat.ne_of_gt (HNA.out ad hA))
  have hP : PRow ((w4.alloc (.cells TA 27)).setRow (w.heap.size + 1) VA) Ba ma ka S1.pins := Row.keep HPA.out fun ad hA _ _ => setRow_other _ _ _ _ (Nat.ne_of_gt (HNB.out ad hA))
  have hL2 : IRow ((w4.alloc (.cells TA 27)).setRow (w.heap.size + 1) VA) Ac nc cc S2.list := Row.keep HLC.out fun ad hA _ _ => setRow_other _ _ _ _ (Nat.ne_of_gt (HNC.out ad hA))
  have hP2 : PRow ((w4.alloc (.cells TA 27)).setRow (w.heap.size + 1) VA) Bc mc kc S2.pins := Row.keep HPC.out fun ad hA _ _ => setRow_other _ _ _ _ (Nat.ne_of_gt (HND.out ad hA))
  replace HX := Lib.hid hX; replace HY := Lib.hid hY; replace HB := Lib.hid hB; replace HZ := Lib.hid hZ; replace HLA := Lib.hid hL; replace HPA := Lib.hid hP; replace HLC := Lib.hid hL2; replace HPC := Lib.hid hP2; clear hX hY hB hZ hL hP hL2 hP2 HTT
  generalize ((w4.alloc (.cells TA 27)).setRow (w.heap.size + 1) VA) = y2 at *
  rw [rounds_succ]
  have HYP := HY
  have hn := one_new y2 (.cells VA 29)
  replace HX := Lib.hid ((hn.block _ (by have := HZ.out; omega)).trans HX.out); replace HY := Lib.hid ((hn.block _ HZ.out).trans HY.out)
  replace HB := Lib.hid (HB.out.trans (hn.mono HB.out.size)); replace HZ : Hid (w.heap.size + 1 < (y2.alloc (.cells VA 29)).heap.size) := Lib.hid (Nat.lt_of_lt_of_le HZ.out hn.size)
  replace HLA := Lib.hid (HLA.out.later hn)
  replace HPA := Lib.hid (HPA.out.later hn)
  replace HLC := Lib.hid (HLC.out.later hn)
  replace HPC := Lib.hid (HPC.out.later hn)
  have HT11 : Hid ((y2.alloc (.cells VA 29)).heap[y2.heap.size]? = some (.cells VA 29 (0, 0))) := Lib.hid (heap_alloc_new _ _)
  clear hn
  by_cases h0 : n2 = 0
  · subst h0
    go_wp2_with (first | (refine wpList_load_part rfl 27 (.tmp 41) rfl (w.heap.size + 1) 0 rfl 84 VA SA2 (0, 0) _ HYP.out Tryz.underlying27 rfl (by rw [HZA.out]; kernel_rfl) (fun j hj => by have h := H26.out.c0 j (by rw [HZA.out] at hj; exact hj); first | exact h | (rw [Nat.zero_add]; exact h)) ?_) | (refine wpList_load_part rfl 27 (.tmp 43) rfl (w.heap.size + 1) 13 rfl 84 VA TA (0, 0) _ HYP.out Tryz.underlying27 rfl (by rw [HZT.out]; kernel_rfl) (fun j hj => by have h := H26.out.c1 j (by rw [HZT.out] at hj; exact hj); first | exact h | (rw [Nat.zero_add]; exact h)) ?_) | (refine wpList_buildTo rfl 29 #[(0, .tmp 42), (1, .tmp 44)] rfl (some 45) rfl VA ((congrArg (Tryz.prog.built 29) (show _ = [(0, Value.agg SA2), (1, Value.agg TA)] by kernel_rfl)).trans H26.out.blt) ?_) | (refine wpList_store_new rfl 29 (.tmp 11) (.tmp 45) rfl 29 _ VA rfl rfl H26.out.iF (by rw [H26.out.z3]; rfl) H26.out.o3 ?_) | (refine wpList_load_rowG rfl 29 (.tmp 11) rfl y2.heap.size rfl 29 VA (0, 0) _ HT11.out Tryz.underlying29 rfl H26.out.iF ?_))
    refine (HTF.out _).mono ?_
    rintro e w5 ⟨rfl, hb⟩
    replace HX := Lib.hid ((hb.block _ (by have := HZ.out; omega)).trans HX.out); replace HY := Lib.hid ((hb.block _ HZ.out).trans HY.out)
    replace HT11 := Lib.hid ((hb.block _ (Array.getElem?_eq_some_iff.1 HT11.out).1).trans HT11.out)
    replace HB := Lib.hid (HB.out.trans (hb.mono HB.out.size)); replace HZ : Hid (w.heap.size + 1 < w5.heap.size) := Lib.hid (Nat.lt_of_lt_of_le HZ.out hb.size)
    replace HLA := Lib.hid (HLA.out.later hb)
    replace HPA := Lib.hid (HPA.out.later hb)
    replace HLC := Lib.hid (HLC.out.later hb)
    replace HPC := Lib.hid (HPC.out.later hb)
    clear hb
    cases tf
    · have hOK : OK = false := by rw [HOK.out]; simp
      go_wp2_with (first | (refine wpList_load_row rfl 29 (.tmp 11) rfl y2.heap.size rfl 29 VA (0, 0) _ HT11.out Tryz.underlying29 rfl H26.out.iF ?_) | (refine wpList_store_row rfl 29 (.tmp 2) (.tmp 54) rfl w.heap.size #[.int .i64 0, .int .i64 0, .string ⟨#[]⟩, .int .i64 0, .int .i64 0, .int .i64 0, .int .i64 0, .int .i64 0, .slice none 0 0, .slice none 0 0, .string ⟨#[]⟩, .int .i64 0, .string ⟨#[]⟩, .int .i64 0, .int .i64 0, .string ⟨#[]⟩, .int .i64 0, .int .i64 0, .int .i64 0, .int .i64 0, .int .i64 0, .slice none 0 0, .slice none 0 0, .string ⟨#[]⟩, .int .i64 0, .string ⟨#[]⟩] rfl rfl 29 _ HX.out (by kernel_rfl) rfl (by simp [Value.oneCell']) ?_))
      refine bodyPost_ret (results_fdec rfl rfl (setRow_heap _ _ _ #[.int .i64 0, .int .i64 0, .string ⟨#[]⟩, .int .i64 0, .int .i64 0, .int .i64 0, .int .i64 0, .int .i64 0, .slice none 0 0, .slice none 0 0, .string ⟨#[]⟩, .int .i64 0, .string ⟨#[]⟩, .int .i64 0, .int .i64 0, .string ⟨#[]⟩, .int .i64 0, .int .i64 0, .int .i64 0, .int .i64 0, .int .i64 0, .slice none 0 0, .slice none 0 0, .string ⟨#[]⟩, .int .i64 0, .string ⟨#[]⟩] _ _ HX.out) rfl) rfl ?_
      rw [HF1.out, HF2.out, HFE.out, hOK]
      exact DecF.zero (below_setRow HB.out (Nat.le_refl _) _)
    · have hz : r2 = [] := List.eq_nil_of_length_eq_zero HLN.out
      have hOK : OK = true := by rw [HOK.out]; simp [hz]
      go_wp2_with (first | (refine wpList_load_row rfl 29 (.tmp 11) rfl y2.heap.size rfl 29 VA (0, 0) _ HT11.out Tryz.underlying29 rfl H26.out.iF ?_) | (refine wpList_store_row rfl 29 (.tmp 2) (.tmp 55) rfl w.heap.size VA rfl rfl 29 _ HX.out H26.out.iF (by rw [H26.out.z3]; rfl) H26.out.o3 ?_))
      refine bodyPost_ret (v := .tuple #[.agg VA, .int .i64 0]) (results_fdec rfl rfl (setRow_heap _ _ _ VA _ _ HX.out) H26.out.z3) rfl ?_
      rw [HF1.out, HF2.out, HFE.out, hOK]
      refine ⟨Aa, na, ca, Ba, ma, ka, Ac, nc, cc, Bc, mc, kc, by simp only [if_true]; rw [HEV.out], ?_, ?_, ?_, ?_, below_setRow HB.out (Nat.le_refl _) _⟩
      · exact Row.keep HLA.out fun ad hA _ _ => setRow_other _ _ _ _ (by have := HNA.out ad hA; omega)
      · exact Row.keep HPA.out fun ad hA _ _ => setRow_other _ _ _ _ (by have := HNB.out ad hA; omega)
      · exact Row.keep HLC.out fun ad hA _ _ => setRow_other _ _ _ _ (by have := HNC.out ad hA; omega)
      · exact Row.keep HPC.out fun ad hA _ _ => setRow_other _ _ _ _ (by have := HND.out ad hA; omega)
  · have hz : ¬ r2 = [] := fun e => h0 (by rw [← HLN.out, e]; rfl)
    have hOK : OK = false := by rw [HOK.out]; simp [hz]
    have hlt : (0 : Int) < (n2 : Int) := by omega
    go_wp2_with (first | (refine wpList_load_part rfl 27 (.tmp 41) rfl (w.heap.size + 1) 0 rfl 84 VA SA2 (0, 0) _ HYP.out Tryz.underlying27 rfl (by rw [HZA.out]; kernel_rfl) (fun j hj => by have h := H26.out.c0 j (by rw [HZA.out] at hj; exact hj); first | exact h | (rw [Nat.zero_add]; exact h)) ?_) | (refine wpList_load_part rfl 27 (.tmp 43) rfl (w.heap.size + 1) 13 rfl 84 VA TA (0, 0) _ HYP.out Tryz.underlying27 rfl (by rw [HZT.out]; kernel_rfl) (fun j hj => by have h := H26.out.c1 j (by rw [HZT.out] at hj; exact hj); first | exact h | (rw [Nat.zero_add]; exact h)) ?_) | (refine wpList_buildTo rfl 29 #[(0, .tmp 42), (1, .tmp 44)] rfl (some 45) rfl VA ((congrArg (Tryz.prog.built 29) (show _ = [(0, Value.agg SA2), (1, Value.agg TA)] by kernel_rfl)).trans H26.out.blt) ?_) | (refine wpList_store_new rfl 29 (.tmp 11) (.tmp 45) rfl 29 _ VA rfl rfl H26.out.iF (by rw [H26.out.z3]; rfl) H26.out.o3 ?_) | (refine wpList_store_row rfl 29 (.tmp 2) (.tmp 54) rfl w.heap.size #[.int .i64 0, .int .i64 0, .string ⟨#[]⟩, .int .i64 0, .int .i64 0, .int .i64 0, .int .i64 0, .int .i64 0, .slice none 0 0, .slice none 0 0, .string ⟨#[]⟩, .int .i64 0, .string ⟨#[]⟩, .int .i64 0, .int .i64 0, .string ⟨#[]⟩, .int .i64 0, .int .i64 0, .int .i64 0, .int .i64 0, .int .i64 0, .slice none 0 0, .slice none 0 0, .string ⟨#[]⟩, .int .i64 0, .string ⟨#[]⟩] rfl rfl 29 _ HX.out (by kernel_rfl) rfl (by simp [Value.oneCell']) ?_))
    refine bodyPost_ret (results_fdec rfl rfl (setRow_heap _ _ _ #[.int .i64 0, .int .i64 0, .string ⟨#[]⟩, .int .i64 0, .int .i64 0, .int .i64 0, .int .i64 0, .int .i64 0, .slice none 0 0, .slice none 0 0, .string ⟨#[]⟩, .int .i64 0, .string ⟨#[]⟩, .int .i64 0, .int .i64 0, .string ⟨#[]⟩, .int .i64 0, .int .i64 0, .int .i64 0, .int .i64 0, .int .i64 0, .slice none 0 0, .slice none 0 0, .string ⟨#[]⟩, .int .i64 0, .string ⟨#[]⟩] _ _ HX.out) rfl) rfl ?_
    rw [HF1.out, HF2.out, HFE.out, hOK]
    exact DecF.zero (below_setRow HB.out (Nat.le_refl _) _)
end Go.Proofs.YtkglgboncngpbaaGreatDoor
