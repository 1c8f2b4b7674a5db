/- The walk of statement.read. -/
import Derived.Test.YtnlnbakkobmclaaDoorCatch
namespace Go.Proofs.YtnlnbakkobmclaaDoor
open Go.RowKit
def zeroS : Stm := ⟨0, 0, ⟨#[]⟩, 0, 0, 0, 0, 0, [], [], ⟨#[]⟩, 0, ⟨#[]⟩⟩
/-- Whether bytes say a statement and nothing more. -/
noncomputable def readOk (us : List UInt8) : Bool := (parse us).2.2 && decide ((parse us).2.1.length = 0)
noncomputable def readS (us : List UInt8) : Stm := if readOk us = true then (parse us).1 else zeroS
def ReadR (w : World) (s : Stm) (ok : Bool) (e : Ending) (w' : World) : Prop :=
  ∃ A n c B m k, e = .returned (.tuple #[stmV s A n c B m k, .bool ok]) ∧ IRow w' A n c s.list ∧ PRow w' B m k s.pins ∧ New w w' A ∧ New w w' B ∧ Below w.heap.size w w'
theorem results_read {tmps : Array Value} {w : World} {s k : Nat} {cs : Array Value} {b : Bool} (h2 : tmps.getD 2 undef = .pointer (some ⟨s, 0, none⟩)) (h3 : tmps.getD 3 undef = .pointer (some ⟨k, 0, none⟩))
    (hs : w.heap[s]? = some (.cells cs 27 (0, 0))) (hz : cs.size = 13) (hk : w.heap[k]? = some (.cells #[.bool b] 4 (0, 0))) :
    (results Tryd.f43 tmps).run Tryd.prog w = .ok (.tuple #[.agg cs, .bool b]) w := by
  have hr : Tryd.f43.results = #[.cell 2 27, .cell 3 4] := rfl
  have h2' : tmps[2]?.getD undef = .pointer (some ⟨s, 0, none⟩) := by simpa using h2
  have h3' : tmps[3]?.getD undef = .pointer (some ⟨k, 0, none⟩) := by simpa using h3
  have hc : w.cell? ⟨k, 0, none⟩ = some (.bool b) := by rw [cell_of_row _ _ _ _ _ _ hk]; rfl
  have hl := run_loadVar_row (P := Tryd.prog) w s 27 27 cs (0, 0) _ hs Tryd.underlying27 rfl (by rw [hz]; kernel_rfl)
  have hb : (loadVar 4 ⟨k, 0, none⟩).run Tryd.prog w = .ok (.bool b) w := by simp [go_sem, hc]
  unfold results
  rw [hr]
  simp [h2', h3', asAddr, hl, hb]
set_option maxRecDepth 100000 in
set_option maxHeartbeats 2000000 in
theorem read_any (A : Option Addr) (n c : Nat) (us : List UInt8) (w : World) (hr : BRow w A n c us) (hn : n ≤ 900000) :
    Calls Tryd.prog 43 #[.slice A n c] w (ReadR w (readS us) (readOk us)) := by
  have hmf : ∀ (fn : Fn) (first cap : Array Value) (w : World), (Instr.makeFunc fn first cap).run Tryd.prog w = .ok (.func fn first cap) w := fun _ _ _ _ => rfl
  have hlen := hr.len
  have hlow : ∀ ad, A = some ad → 0 < n → ad.block < w.heap.size := fun ad hA h0 => Row.lt hr (by omega) ad hA h0
  have hb1 : Below w.heap.size w (((w.alloc (.cells #[.int .i64 0, .int .i64 0, .string ⟨#[]⟩, .int .i64 0, .int .i64 0, .int .i64 0, .int .i64 0, .int .i64 0, .slice none 0 0, .slice none 0 0, .string ⟨#[]⟩, .int .i64 0, .string ⟨#[]⟩] 27)).alloc (.cells #[.bool false] 4)).alloc (.cells #[.slice A n c] 83)) := ((one_new w _).alloc (by simp only [World.size_alloc]; omega) _).alloc (by simp only [World.size_alloc]; omega) _
  have hR : (((w.alloc (.cells #[.int .i64 0, .int .i64 0, .string ⟨#[]⟩, .int .i64 0, .int .i64 0, .int .i64 0, .int .i64 0, .int .i64 0, .slice none 0 0, .slice none 0 0, .string ⟨#[]⟩, .int .i64 0, .string ⟨#[]⟩] 27)).alloc (.cells #[.bool false] 4)).alloc (.cells #[.slice A n c] 83)).heap[w.heap.size + 2]? = some (.cells #[.slice A n c] 83 (0, 0)) := by
    have := heap_alloc_new ((w.alloc (.cells #[.int .i64 0, .int .i64 0, .string ⟨#[]⟩, .int .i64 0, .int .i64 0, .int .i64 0, .int .i64 0, .int .i64 0, .slice none 0 0, .slice none 0 0, .string ⟨#[]⟩, .int .i64 0, .string ⟨#[]⟩] 27)).alloc (.cells #[.bool false] 4)) (.cells #[.slice A n c] 83)
    rw [show ((w.alloc (.cells #[.int .i64 0, .int .i64 0, .string ⟨#[]⟩, .int .i64 0, .int .i64 0, .int .i64 0, .int .i64 0, .int .i64 0, .slice none 0 0, .slice none 0 0, .string ⟨#[]⟩, .int .i64 0, .string ⟨#[]⟩] 27)).alloc (.cells #[.bool false] 4)).heap.size = w.heap.size + 2 by simp] at this
    exact this
  have hK : (((w.alloc (.cells #[.int .i64 0, .int .i64 0, .string ⟨#[]⟩, .int .i64 0, .int .i64 0, .int .i64 0, .int .i64 0, .int .i64 0, .slice none 0 0, .slice none 0 0, .string ⟨#[]⟩, .int .i64 0, .string ⟨#[]⟩] 27)).alloc (.cells #[.bool false] 4)).alloc (.cells #[.slice A n c] 83)).heap[w.heap.size + 1]? = some (.cells #[.bool false] 4 (0, 0)) := by
    have := heap_alloc_new (w.alloc (.cells #[.int .i64 0, .int .i64 0, .string ⟨#[]⟩, .int .i64 0, .int .i64 0, .int .i64 0, .int .i64 0, .int .i64 0, .slice none 0 0, .slice none 0 0, .string ⟨#[]⟩, .int .i64 0, .string ⟨#[]⟩] 27)) (.cells #[.bool false] 4)
    rw [show (w.alloc (.cells #[.int .i64 0, .int .i64 0, .string ⟨#[]⟩, .int .i64 0, .int .i64 0, .int .i64 0, .int .i64 0, .int .i64 0, .slice none 0 0, .slice none 0 0, .string ⟨#[]⟩, .int .i64 0, .string ⟨#[]⟩] 27)).heap.size = w.heap.size + 1 by simp] at this
    exact (Below.heap_alloc _ _ _ (by simp)).trans this
  have hS : (((w.alloc (.cells #[.int .i64 0, .int .i64 0, .string ⟨#[]⟩, .int .i64 0, .int .i64 0, .int .i64 0, .int .i64 0, .int .i64 0, .slice none 0 0, .slice none 0 0, .string ⟨#[]⟩, .int .i64 0, .string ⟨#[]⟩] 27)).alloc (.cells #[.bool false] 4)).alloc (.cells #[.slice A n c] 83)).heap[w.heap.size]? = some (.cells zeroA 27 (0, 0)) :=
    (Below.heap_alloc _ _ _ (by simp only [World.size_alloc]; omega)).trans ((Below.heap_alloc _ _ _ (by simp)).trans (heap_alloc_new w (.cells #[.int .i64 0, .int .i64 0, .string ⟨#[]⟩, .int .i64 0, .int .i64 0, .int .i64 0, .int .i64 0, .int .i64 0, .slice none 0 0, .slice none 0 0, .string ⟨#[]⟩, .int .i64 0, .string ⟨#[]⟩] 27)))
  have hz : w.heap.size + 2 < (((w.alloc (.cells #[.int .i64 0, .int .i64 0, .string ⟨#[]⟩, .int .i64 0, .int .i64 0, .int .i64 0, .int .i64 0, .int .i64 0, .slice none 0 0, .slice none 0 0, .string ⟨#[]⟩, .int .i64 0, .string ⟨#[]⟩] 27)).alloc (.cells #[.bool false] 4)).alloc (.cells #[.slice A n c] 83)).heap.size := by simp
  have hrd : RdAt (((w.alloc (.cells #[.int .i64 0, .int .i64 0, .string ⟨#[]⟩, .int .i64 0, .int .i64 0, .int .i64 0, .int .i64 0, .int .i64 0, .slice none 0 0, .slice none 0 0, .string ⟨#[]⟩, .int .i64 0, .string ⟨#[]⟩] 27)).alloc (.cells #[.bool false] 4)).alloc (.cells #[.slice A n c] 83)) w.heap.size (w.heap.size + 2) us := ⟨⟨A, n, c, hR, Row.later hr hb1, hlow⟩, by omega⟩
  have HB1 := Lib.hid hb1; have HK1 := Lib.hid hK; have HS1 := Lib.hid hS; have HZ1 := Lib.hid hz; have HR1 := Lib.hid hrd
  have HOK : Hid (readOk us = ((parse us).2.2 && decide ((parse us).2.1.length = 0))) := Lib.hid rfl
  have HRS : Hid (readS us = if readOk us = true then (parse us).1 else zeroS) := Lib.hid rfl
  have HST : Hid (∀ y, RdAt y w.heap.size (w.heap.size + 2) us → Calls Tryd.prog 66 #[.pointer (some ⟨w.heap.size + 2, 0, none⟩)] y (ReadsS w.heap.size (w.heap.size + 2) y (parse us).1 (parse us).2.1 (parse us).2.2)) := Lib.hid fun y h => rdStatement _ _ us y h (by omega)
  clear hlow hb1 hR hK hS hz hrd hlen hr
  generalize readS us = RS at HRS ⊢
  generalize readOk us = OK at HOK HRS ⊢
  generalize parse us = T at HOK HRS HST
  obtain ⟨s, rest, ok⟩ := T
  simp only at HOK HRS HST
  go_enter_defers Tryd.func43, Tryd.ntmps43
  go_wp2_with fail
  rw [show w.heap.size + 1 + 1 = w.heap.size + 2 from rfl]
  generalize ((w.alloc (.cells #[.int .i64 0, .int .i64 0, .string ⟨#[]⟩, .int .i64 0, .int .i64 0, .int .i64 0, .int .i64 0, .int .i64 0, .slice none 0 0, .slice none 0 0, .string ⟨#[]⟩, .int .i64 0, .string ⟨#[]⟩] 27)).alloc (.cells #[.bool false] 4)).alloc (.cells #[.slice A n c] 83) = w1 at HB1 HK1 HS1 HZ1 HR1 ⊢
  refine (HST.out w1 HR1.out).mono ?_
  rintro e y1 ⟨hb, ⟨hok, ⟨A1, n1, c1, B1, m1, k1, rfl, hl, hp, hna, hnb⟩, hrd⟩ | ⟨hok, rfl⟩⟩
  · obtain ⟨⟨A', n', c', hR', hr', -⟩, -⟩ := hrd
    have hlr : rest.length = n' := hr'.len
    clear hr'
    have HB2 := Lib.hid (HB1.out.trans (hb.below (B := w.heap.size) (by omega) HB1.out.size))
    have HS2 := Lib.hid ((hb.block w.heap.size (by have := HZ1.out; omega) (by omega)).trans HS1.out)
    have HK2 := Lib.hid ((hb.block (w.heap.size + 1) (by have := HZ1.out; omega) (by omega)).trans HK1.out)
    have HZ2 : Hid (w.heap.size + 2 < y1.heap.size) := Lib.hid (Nat.lt_of_lt_of_le HZ1.out hb.size)
    have HNA : Hid (∀ ad, A1 = some ad → w.heap.size + 2 < ad.block) := Lib.hid fun ad hA => Nat.lt_of_lt_of_le HZ1.out (hna ad hA).1
    have HNB : Hid (∀ ad, B1 = some ad → w.heap.size + 2 < ad.block) := Lib.hid fun ad hA => Nat.lt_of_lt_of_le HZ1.out (hnb ad hA).1
    have HMA : Hid (∀ ad, A1 = some ad → ad.block < y1.heap.size) := Lib.hid fun ad hA => (hna ad hA).2
    have HMB : Hid (∀ ad, B1 = some ad → ad.block < y1.heap.size) := Lib.hid fun ad hA => (hnb ad hA).2
    have HL2 := Lib.hid hl; have HP2 := Lib.hid hp
    obtain ⟨sa, sn, sp, st, sk, s5, s6, s7, sl, spn, s10, s11, s12⟩ := s
    unfold stmV
    simp only
    have hcR : (y1.setRow w.heap.size #[.int .i64 sa, .int .i64 sn, .string sp, .int .i64 st, .int .i64 sk, .int .i64 s5, .int .i64 s6, .int .i64 s7, .slice A1 n1 c1, .slice B1 m1 k1, .string s10, .int .i64 s11, .string s12]).cell? ⟨w.heap.size + 2, 0, none⟩ = some (.slice A' n' c') := by
      rw [cell_of_row _ _ _ _ _ _ ((setRow_other _ _ _ _ (by omega)).trans hR')]; rfl
    have HSR : Hid ((y1.setRow w.heap.size #[.int .i64 sa, .int .i64 sn, .string sp, .int .i64 st, .int .i64 sk, .int .i64 s5, .int .i64 s6, .int .i64 s7, .slice A1 n1 c1, .slice B1 m1 k1, .string s10, .int .i64 s11, .string s12]).heap[w.heap.size]? = some (.cells #[.int .i64 sa, .int .i64 sn, .string sp, .int .i64 st, .int .i64 sk, .int .i64 s5, .int .i64 s6, .int .i64 s7, .slice A1 n1 c1, .slice B1 m1 k1, .string s10, .int .i64 s11, .string s12] 27 (0, 0))) := Lib.hid (setRow_heap _ _ _ _ _ _ HS2.out)
    have HKR : Hid ((y1.setRow w.heap.size #[.int .i64 sa, .int .i64 sn, .string sp, .int .i64 st, .int .i64 sk, .int .i64 s5, .int .i64 s6, .int .i64 s7, .slice A1 n1 c1, .slice B1 m1 k1, .string s10, .int .i64 s11, .string s12]).heap[w.heap.size + 1]? = some (.cells #[.bool false] 4 (0, 0))) := Lib.hid ((setRow_other _ _ _ _ (by omega)).trans HK2.out)
    have HBR : Hid (Below w.heap.size w (y1.setRow w.heap.size #[.int .i64 sa, .int .i64 sn, .string sp, .int .i64 st, .int .i64 sk, .int .i64 s5, .int .i64 s6, .int .i64 s7, .slice A1 n1 c1, .slice B1 m1 k1, .string s10, .int .i64 s11, .string s12])) := Lib.hid (below_setRow HB2.out (Nat.le_refl _) _)
    have HKP : Hid (∀ k, k ≠ w.heap.size → (y1.setRow w.heap.size #[.int .i64 sa, .int .i64 sn, .string sp, .int .i64 st, .int .i64 sk, .int .i64 s5, .int .i64 s6, .int .i64 s7, .slice A1 n1 c1, .slice B1 m1 k1, .string s10, .int .i64 s11, .string s12]).heap[k]? = y1.heap[k]?) := Lib.hid fun k hk => setRow_other _ _ _ _ hk
    have HYS : Hid (y1.heap.size = (y1.setRow w.heap.size #[.int .i64 sa, .int .i64 sn, .string sp, .int .i64 st, .int .i64 sk, .int .i64 s5, .int .i64 s6, .int .i64 s7, .slice A1 n1 c1, .slice B1 m1 k1, .string s10, .int .i64 s11, .string s12]).heap.size) := Lib.hid (by rw [setRow_size])
    have HZR : Hid (w.heap.size + 2 < (y1.setRow w.heap.size #[.int .i64 sa, .int .i64 sn, .string sp, .int .i64 st, .int .i64 sk, .int .i64 s5, .int .i64 s6, .int .i64 s7, .slice A1 n1 c1, .slice B1 m1 k1, .string s10, .int .i64 s11, .string s12]).heap.size) := Lib.hid (by rw [setRow_size]; exact HZ2.out)
    clear hb hl hp hna hnb hR' HST
    by_cases h0 : n' = 0
    · have e0 : (n' : Int) = 0 := by omega
      have HOK2 : Hid (OK = true) := by unfold Hid; rw [HOK.out, hok]; simp [hlr, h0]
      have HRS2 : Hid (RS = ⟨sa, sn, sp, st, sk, s5, s6, s7, sl, spn, s10, s11, s12⟩) := by unfold Hid; rw [HRS.out, HOK2.out]; rfl
      go_wp2_with (refine wpList_store_row rfl 27 (.tmp 2) (.tmp 8) rfl w.heap.size #[.int .i64 sa, .int .i64 sn, .string sp, .int .i64 st, .int .i64 sk, .int .i64 s5, .int .i64 s6, .int .i64 s7, .slice A1 n1 c1, .slice B1 m1 k1, .string s10, .int .i64 s11, .string s12] rfl rfl 27 _ HS2.out (by kernel_rfl) rfl (by simp [Value.oneCell']) ?_)
      refine (require_yes _ _).mono ?_
      rintro e w2 ⟨rfl, rfl⟩
      clear hcR
      generalize (y1.setRow w.heap.size #[.int .i64 sa, .int .i64 sn, .string sp, .int .i64 st, .int .i64 sk, .int .i64 s5, .int .i64 s6, .int .i64 s7, .slice A1 n1 c1, .slice B1 m1 k1, .string s10, .int .i64 s11, .string s12]) = y2 at HSR HKR HBR HKP HZR HYS ⊢
      obtain ⟨hc0, hc1, hc2, hc3, hc4, hc5, hc6, hc7, hc8, hc9, hc10, hc11, hc12⟩ := stm_cells (A := A1) (n := n1) (c := c1) (B := B1) (m := m1) (k := k1) (s := ⟨sa, sn, sp, st, sk, s5, s6, s7, sl, spn, s10, s11, s12⟩) HSR.out
      have HKS : Hid ((y2.setRow w.heap.size #[.int .i64 sa, .int .i64 sn, .string sp, .int .i64 st, .int .i64 sk, .int .i64 s5, .int .i64 s6, .int .i64 s7, .slice A1 n1 c1, .slice B1 m1 k1, .string s10, .int .i64 s11, .string s12]).heap[w.heap.size + 1]? = _) := Lib.hid ((setRow_other _ _ _ _ (by omega)).trans HKR.out)
      have hcK : (y2.setRow w.heap.size #[.int .i64 sa, .int .i64 sn, .string sp, .int .i64 st, .int .i64 sk, .int .i64 s5, .int .i64 s6, .int .i64 s7, .slice A1 n1 c1, .slice B1 m1 k1, .string s10, .int .i64 s11, .string s12]).cell? ⟨w.heap.size + 1, 0, none⟩ = some (.bool false) := by rw [cell_of_row _ _ _ _ _ _ HKS.out]; rfl
      have hzK : (y2.setRow w.heap.size #[.int .i64 sa, .int .i64 sn, .string sp, .int .i64 st, .int .i64 sk, .int .i64 s5, .int .i64 s6, .int .i64 s7, .slice A1 n1 c1, .slice B1 m1 k1, .string s10, .int .i64 s11, .string s12]).frozen? ⟨w.heap.size + 1, 0, none⟩ = false := frozen_of_row _ _ _ _ _ HKS.out
      go_wp2_with (refine wpList_store_row rfl 27 (.tmp 2) (.tmp 14) rfl w.heap.size #[.int .i64 sa, .int .i64 sn, .string sp, .int .i64 st, .int .i64 sk, .int .i64 s5, .int .i64 s6, .int .i64 s7, .slice A1 n1 c1, .slice B1 m1 k1, .string s10, .int .i64 s11, .string s12] rfl rfl 27 _ HSR.out (by kernel_rfl) rfl (by simp [Value.oneCell']) ?_)
      have hs3 : ((y2.setRow w.heap.size #[.int .i64 sa, .int .i64 sn, .string sp, .int .i64 st, .int .i64 sk, .int .i64 s5, .int .i64 s6, .int .i64 s7, .slice A1 n1 c1, .slice B1 m1 k1, .string s10, .int .i64 s11, .string s12]).setCell ⟨w.heap.size + 1, 0, none⟩ (.bool true)).heap[w.heap.size]? = some (.cells #[.int .i64 sa, .int .i64 sn, .string sp, .int .i64 st, .int .i64 sk, .int .i64 s5, .int .i64 s6, .int .i64 s7, .slice A1 n1 c1, .slice B1 m1 k1, .string s10, .int .i64 s11, .string s12] 27 (0, 0)) := (Below.heap_setCell _ _ _ _ (by show w.heap.size ≠ w.heap.size + 1; omega)).trans (setRow_heap _ _ _ _ _ _ HSR.out)
      have hk3 : ((y2.setRow w.heap.size #[.int .i64 sa, .int .i64 sn, .string sp, .int .i64 st, .int .i64 sk, .int .i64 s5, .int .i64 s6, .int .i64 s7, .slice A1 n1 c1, .slice B1 m1 k1, .string s10, .int .i64 s11, .string s12]).setCell ⟨w.heap.size + 1, 0, none⟩ (.bool true)).heap[w.heap.size + 1]? = some (.cells #[.bool true] 4 (0, 0)) := heap_setCell_same _ _ _ _ _ _ HKS.out
      have hb3 : Below w.heap.size w ((y2.setRow w.heap.size #[.int .i64 sa, .int .i64 sn, .string sp, .int .i64 st, .int .i64 sk, .int .i64 s5, .int .i64 s6, .int .i64 s7, .slice A1 n1 c1, .slice B1 m1 k1, .string s10, .int .i64 s11, .string s12]).setCell ⟨w.heap.size + 1, 0, none⟩ (.bool true)) := (below_setRow HBR.out (Nat.le_refl _) _).setCell (p := ⟨w.heap.size + 1, 0, none⟩) (by show w.heap.size ≤ w.heap.size + 1; omega) _
      have hkp : ∀ k, w.heap.size + 2 < k → ((y2.setRow w.heap.size #[.int .i64 sa, .int .i64 sn, .string sp, .int .i64 st, .int .i64 sk, .int .i64 s5, .int .i64 s6, .int .i64 s7, .slice A1 n1 c1, .slice B1 m1 k1, .string s10, .int .i64 s11, .string s12]).setCell ⟨w.heap.size + 1, 0, none⟩ (.bool true)).heap[k]? = y1.heap[k]? := fun k hk => (Below.heap_setCell _ _ _ _ (by show k ≠ w.heap.size + 1; omega)).trans ((setRow_other _ _ _ _ (by omega)).trans (HKP.out k (by omega)))
      have hss : ((y2.setRow w.heap.size #[.int .i64 sa, .int .i64 sn, .string sp, .int .i64 st, .int .i64 sk, .int .i64 s5, .int .i64 s6, .int .i64 s7, .slice A1 n1 c1, .slice B1 m1 k1, .string s10, .int .i64 s11, .string s12]).setCell ⟨w.heap.size + 1, 0, none⟩ (.bool true)).heap.size = y2.heap.size := by rw [World.size_setCell, setRow_size]
      have hzz : w.heap.size + 2 < ((y2.setRow w.heap.size #[.int .i64 sa, .int .i64 sn, .string sp, .int .i64 st, .int .i64 sk, .int .i64 s5, .int .i64 s6, .int .i64 s7, .slice A1 n1 c1, .slice B1 m1 k1, .string s10, .int .i64 s11, .string s12]).setCell ⟨w.heap.size + 1, 0, none⟩ (.bool true)).heap.size := by rw [World.size_setCell, setRow_size]; exact HZR.out
      generalize (y2.setRow w.heap.size #[.int .i64 sa, .int .i64 sn, .string sp, .int .i64 st, .int .i64 sk, .int .i64 s5, .int .i64 s6, .int .i64 s7, .slice A1 n1 c1, .slice B1 m1 k1, .string s10, .int .i64 s11, .string s12]).setCell ⟨w.heap.size + 1, 0, none⟩ (.bool true) = w3 at hs3 hk3 hb3 hkp hzz hss ⊢
      refine leaves_cons (f := 65) (args := #[.pointer (some ⟨w.heap.size, 0, none⟩), .pointer (some ⟨w.heap.size + 1, 0, none⟩)]) (by simp) (by simp [go_sem]) ?_
      refine (catch_idle ⟨w.heap.size, 0, none⟩ ⟨w.heap.size + 1, 0, none⟩ w3).mono ?_
      rintro e u' w4 ⟨rfl, rfl, hb4⟩
      change Leaves _ _ _ _ [] FrameMode.returning _
      refine ⟨_, results_read rfl rfl ((hb4.block _ (by omega)).trans hs3) rfl ((hb4.block _ (by omega)).trans hk3), A1, n1, c1, B1, m1, k1, ?_, ?_, ?_, (fun ad hA => ⟨by have := HNA.out ad hA; omega, by have := HMA.out ad hA; have := hb4.size; have := HYS.out; omega⟩), (fun ad hA => ⟨by have := HNB.out ad hA; omega, by have := HMB.out ad hA; have := hb4.size; have := HYS.out; omega⟩), hb3.trans (hb4.mono hb3.size)⟩
      · rw [HRS2.out, HOK2.out]; rfl
      · rw [HRS2.out]; exact (Row.keep HL2.out fun ad hA _ _ => hkp _ (HNA.out ad hA) : IRow w3 A1 n1 c1 sl).later hb4
      · rw [HRS2.out]; exact (Row.keep HP2.out fun ad hA _ _ => hkp _ (HNB.out ad hA) : PRow w3 B1 m1 k1 spn).later hb4
    · have e0 : (n' == 0) = false := by simpa using h0
      have e1 : ((n' : Int) == 0) = false := by simp; omega
      have HOK2 : Hid (OK = false) := by unfold Hid; rw [HOK.out, hok]; simp [hlr, h0]
      have HRS2 : Hid (RS = zeroS) := by unfold Hid; rw [HRS.out, HOK2.out]; rfl
      go_wp2_with (refine wpList_store_row rfl 27 (.tmp 2) (.tmp 8) rfl w.heap.size #[.int .i64 sa, .int .i64 sn, .string sp, .int .i64 st, .int .i64 sk, .int .i64 s5, .int .i64 s6, .int .i64 s7, .slice A1 n1 c1, .slice B1 m1 k1, .string s10, .int .i64 s11, .string s12] rfl rfl 27 _ HS2.out (by kernel_rfl) rfl (by simp [Value.oneCell']) ?_)
      refine (require_no _ _).mono ?_
      rintro e w2 ⟨rfl, rfl⟩
      clear hcR
      generalize (y1.setRow w.heap.size #[.int .i64 sa, .int .i64 sn, .string sp, .int .i64 st, .int .i64 sk, .int .i64 s5, .int .i64 s6, .int .i64 s7, .slice A1 n1 c1, .slice B1 m1 k1, .string s10, .int .i64 s11, .string s12]) = y2 at HSR HKR HBR HKP HZR HYS ⊢
      go_wp2
      refine leaves_cons (f := 65) (args := #[.pointer (some ⟨w.heap.size, 0, none⟩), .pointer (some ⟨w.heap.size + 1, 0, none⟩)]) (by simp) (by simp [go_sem]) ?_
      refine (catch_panicking w.heap.size (w.heap.size + 1) _ false y2 HSR.out rfl HKR.out (by omega) []).mono ?_
      rintro e u' w'' ⟨rfl, rfl, rfl⟩
      have hs3 : (((y2.alloc (.cells #[] 80)).setRow w.heap.size zeroA).setCell ⟨w.heap.size + 1, 0, none⟩ (.bool false)).heap[w.heap.size]? = some (.cells zeroA 27 (0, 0)) :=
        (Below.heap_setCell _ _ _ _ (by show w.heap.size ≠ w.heap.size + 1; omega)).trans (setRow_heap _ _ _ _ _ _ ((Below.heap_alloc _ _ _ (Array.getElem?_eq_some_iff.1 HSR.out).1).trans HSR.out))
      have hk3 : (((y2.alloc (.cells #[] 80)).setRow w.heap.size zeroA).setCell ⟨w.heap.size + 1, 0, none⟩ (.bool false)).heap[w.heap.size + 1]? = some (.cells #[.bool false] 4 (0, 0)) :=
        heap_setCell_same _ _ _ _ _ _ ((setRow_other _ _ _ _ (by omega)).trans ((Below.heap_alloc _ _ _ (Array.getElem?_eq_some_iff.1 HKR.out).1).trans HKR.out))
      have hb3 : Below w.heap.size w (((y2.alloc (.cells #[] 80)).setRow w.heap.size zeroA).setCell ⟨w.heap.size + 1, 0, none⟩ (.bool false)) :=
        (below_setRow (HBR.out.alloc HBR.out.size _) (Nat.le_refl _) _).setCell (p := ⟨w.heap.size + 1, 0, none⟩) (by show w.heap.size ≤ w.heap.size + 1; omega) _
      generalize ((y2.alloc (.cells #[] 80)).setRow w.heap.size zeroA).setCell ⟨w.heap.size + 1, 0, none⟩ (.bool false) = w3 at hs3 hk3 hb3 ⊢
      change Leaves _ _ _ _ [] FrameMode.returning _
      refine ⟨_, results_read rfl rfl hs3 rfl hk3, none, 0, 0, none, 0, 0, ?_, ?_, ?_, (fun _ h => by cases h), (fun _ h => by cases h), hb3⟩
      · rw [HRS2.out, HOK2.out]; rfl
      · rw [HRS2.out]; exact Row.nilRow _ _
      · rw [HRS2.out]; exact Row.nilRow _ _
  · have HB2 := Lib.hid (HB1.out.trans (hb.below (B := w.heap.size) (by omega) HB1.out.size))
    have HS2 := Lib.hid ((hb.block w.heap.size (by have := HZ1.out; omega) (by omega)).trans HS1.out)
    have HK2 := Lib.hid ((hb.block (w.heap.size + 1) (by have := HZ1.out; omega) (by omega)).trans HK1.out)
    have HOK2 : Hid (OK = false) := by unfold Hid; rw [HOK.out, hok]; rfl
    have HRS2 : Hid (RS = zeroS) := by unfold Hid; rw [HRS.out, HOK2.out]; rfl
    go_wp2
    refine leaves_cons (f := 65) (args := #[.pointer (some ⟨w.heap.size, 0, none⟩), .pointer (some ⟨w.heap.size + 1, 0, none⟩)]) (by simp) (by simp [go_sem]) ?_
    refine (catch_panicking w.heap.size (w.heap.size + 1) _ false y1 HS2.out rfl HK2.out (by omega) []).mono ?_
    rintro e u' w'' ⟨rfl, rfl, rfl⟩
    have hs3 : (((y1.alloc (.cells #[] 80)).setRow w.heap.size zeroA).setCell ⟨w.heap.size + 1, 0, none⟩ (.bool false)).heap[w.heap.size]? = some (.cells zeroA 27 (0, 0)) :=
      (Below.heap_setCell _ _ _ _ (by show w.heap.size ≠ w.heap.size + 1; omega)).trans (setRow_heap _ _ _ _ _ _ ((Below.heap_alloc _ _ _ (Array.getElem?_eq_some_iff.1 HS2.out).1).trans HS2.out))
    have hk3 : (((y1.alloc (.cells #[] 80)).setRow w.heap.size zeroA).setCell ⟨w.heap.size + 1, 0, none⟩ (.bool false)).heap[w.heap.size + 1]? = some (.cells #[.bool false] 4 (0, 0)) :=
      heap_setCell_same _ _ _ _ _ _ ((setRow_other _ _ _ _ (by omega)).trans ((Below.heap_alloc _ _ _ (Array.getElem?_eq_some_iff.1 HK2.out).1).trans HK2.out))
    have hb3 : Below w.heap.size w (((y1.alloc (.cells #[] 80)).setRow w.heap.size zeroA).setCell ⟨w.heap.size + 1, 0, none⟩ (.bool false)) :=
      (below_setRow (HB2.out.alloc HB2.out.size _) (Nat.le_refl _) _).setCell (p := ⟨w.heap.size + 1, 0, none⟩) (by show w.heap.size ≤ w.heap.size + 1; omega) _
    generalize ((y1.alloc (.cells #[] 80)).setRow w.heap.size zeroA).setCell ⟨w.heap.size + 1, 0, none⟩ (.bool false) = w3 at hs3 hk3 hb3 ⊢
    change Leaves _ _ _ _ [] FrameMode.returning _
    refine ⟨_, results_read rfl rfl hs3 rfl hk3, none, 0, 0, none, 0, 0, ?_, ?_, ?_, (fun _ h => by cases h), (fun _ h => by cases h), hb3⟩
    · rw [HRS2.out, HOK2.out]; rfl
    · rw [HRS2.out]; exact Row.nilRow _ _
    · rw [HRS2.out]; exact Row.nilRow _ _
end Go.Proofs.YtnlnbakkobmclaaDoor
