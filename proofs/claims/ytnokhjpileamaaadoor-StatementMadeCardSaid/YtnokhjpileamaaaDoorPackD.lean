import Derived.Test.YtnokhjpileamaaaDoorRdStm
import Derived.Defers
import Derived.Recover
import Derived.Test.YtnokhjpileamaaaDoorEncode
import Derived.Test.YtnokhjpileamaaaDoorSome
import Derived.Test.YtnokhjpileamaaaDoorRdPins
import Derived.Test.YtnokhjpileamaaaDoorRefEncode
/- The deferred function of statement.read, which recovers. -/
namespace Go.Proofs.YtnokhjpileamaaaDoor
open Go.RowKit
theorem assert_nil (w : World) : (Instr.typeAssert .nilIface 20 80 true).run Tryd.prog w = .ok (.tuple #[.agg #[], .bool false]) w := by kernel_rfl
theorem assert_yes (w : World) (v : Value) : (Instr.typeAssert (.iface 80 v) 20 80 true).run Tryd.prog w = .ok (.tuple #[v, .bool true]) w := by kernel_rfl
set_option maxRecDepth 20000 in
set_option maxHeartbeats 1000000 in
theorem catch_idle (p q : Addr) (w : World) :
    CallsD Tryd.prog 65 #[.pointer (some p), .pointer (some q)] .returning w fun e u' w' => e = .returned (.tuple #[]) ∧ u' = .returning ∧ Below w.heap.size w w' := by
  have hta := assert_nil
  refine callsD_of_wpS Tryd.func65 rfl fun c₀ cs hu => ?_
  apply wpS_seq
  apply wpS_region
  simp [wpOpsS, go_sem, recoverD, hu, Tryd.ntmps65, Exit.thenS, hta]
  apply wpS_seq
  apply wpS_region
  simp [wpOpsS, go_sem, Exit.thenS]
  refine wpS_cond (t := false) (by simp [Act.eval, Array.replicate]) ?_
  simp only [Bool.false_eq_true, if_false]
  refine wpS_of_wp (wp_skip ?_)
  cases c₀
  simp_all [bodyPostS, results, Tryd.results65]
  exact one_new _ _
/-- The statement that is none. -/
def zeroA : Array Value := #[.int .i64 0, .int .i64 0, .string ⟨#[]⟩, .int .i64 0, .int .i64 0, .int .i64 0, .int .i64 0, .int .i64 0, .slice none 0 0, .slice none 0 0, .string ⟨#[]⟩, .int .i64 0, .string ⟨#[]⟩]
set_option maxRecDepth 20000 in
set_option maxHeartbeats 1000000 in
theorem catch_panicking (p q : Nat) (cs0 : Array Value) (b : Bool) (w : World) (hp : w.heap[p]? = some (.cells cs0 27 (0, 0))) (hs : cs0.size = 13) (hq : w.heap[q]? = some (.cells #[.bool b] 4 (0, 0))) (hne : p ≠ q) (older : List PanicEntry) :
    CallsD Tryd.prog 65 #[.pointer (some ⟨p, 0, none⟩), .pointer (some ⟨q, 0, none⟩)] (.panicking (noStm :: older)) w fun e u' w' =>
      e = .returned (.tuple #[]) ∧ u' = .panicking ({ v := .iface 80 (.agg #[]), recovered := true } :: older) ∧ w' = ((w.alloc (.cells #[] 80)).setRow p zeroA).setCell ⟨q, 0, none⟩ (.bool false) := by
  have hta := assert_yes
  refine callsD_of_wpS Tryd.func65 rfl fun c₀ cs hu => ?_
  apply wpS_seq
  apply wpS_region
  simp [wpOpsS, go_sem, recoverD, hu, noStm, Tryd.ntmps65, Exit.thenS, hta]
  apply wpS_seq
  apply wpS_region
  simp [wpOpsS, go_sem, Exit.thenS]
  refine wpS_cond (t := true) (by simp [Act.eval, Array.replicate]) ?_
  simp only [if_true]
  refine wpS_of_wp ?_
  change Code.wp _ _ _ { tmps := #[.pointer (some ⟨p, 0, none⟩), .pointer (some ⟨q, 0, none⟩), .pointer (some ⟨w.heap.size, 0, none⟩), .bool true, .tuple #[.agg #[], .bool true], .iface 80 (.agg #[]), .tuple #[.agg #[], .bool true], .agg #[], .bool true, .bool true, undef], defers := [] } _
  have hbd : ∀ w, (Instr.build 27 #[]).run Tryd.prog w = .ok (.agg zeroA) w := fun w => by kernel_rfl
  have hp1 : (w.alloc (.cells #[] 80)).heap[p]? = some (.cells cs0 27 (0, 0)) := (Below.heap_alloc _ _ _ (Array.getElem?_eq_some_iff.1 hp).1).trans hp
  have hq1 : ((w.alloc (.cells #[] 80)).setRow p zeroA).heap[q]? = some (.cells #[.bool b] 4 (0, 0)) := (setRow_other _ _ _ _ (Ne.symm hne)).trans ((Below.heap_alloc _ _ _ (Array.getElem?_eq_some_iff.1 hq).1).trans hq)
  have hc : ((w.alloc (.cells #[] 80)).setRow p zeroA).cell? ⟨q, 0, none⟩ = some (.bool b) := by rw [cell_of_row _ _ _ _ _ _ hq1]; rfl
  have hz : ((w.alloc (.cells #[] 80)).setRow p zeroA).frozen? ⟨q, 0, none⟩ = false := frozen_of_row _ _ _ _ _ hq1
  go_wp2_with (refine wpList_store_row rfl 27 (.tmp 0) (.tmp 10) rfl p zeroA rfl rfl 27 _ hp1 (by kernel_rfl) hs (by simp [Value.oneCell', zeroA]) ?_)
  simp [bodyPostS, results, Tryd.results65]
end Go.Proofs.YtnokhjpileamaaaDoor
/- The walk of statement.read. -/
namespace Go.Proofs.YtnokhjpileamaaaDoor
open Go.RowKit
def zeroS : Stm := ⟨0, 0, ⟨#[]⟩, 0, 0, 0, 0, 0, [], [], ⟨#[]⟩, 0, ⟨#[]⟩⟩
/-- Whether bytes say a statement and nothing more. -/
noncomputable def readOk (us : List UInt8) : Bool := (parse us).2.2 && decide ((parse us).2.1.length = 0)
noncomputable def readS (us : List UInt8) : Stm := if readOk us = true then (parse us).1 else zeroS
def ReadR (w : World) (s : Stm) (ok : Bool) (e : Ending) (w' : World) : Prop :=
  ∃ A n c B m k, e = .returned (.tuple #[stmV s A n c B m k, .bool ok]) ∧ IRow w' A n c s.list ∧ PRow w' B m k s.pins ∧ New w w' A ∧ New w w' B ∧ Below w.heap.size w w'
theorem results_read {tmps : Array Value} {w : World} {s k : Nat} {cs : Array Value} {b : Bool} (h2 : tmps.getD 2 undef = .pointer (some ⟨s, 0, none⟩)) (h3 : tmps.getD 3 undef = .pointer (some ⟨k, 0, none⟩))
    (hs : w.heap[s]? = some (.cells cs 27 (0, 0))) (hz : cs.size = 13) (hk : w.heap[k]? = some (.cells #[.bool b] 4 (0, 0))) :
    (results Tryd.f43 tmps).run Tryd.prog w = .ok (.tuple #[.agg cs, .bool b]) w := by
  have hr : Tryd.f43.results = #[.cell 2 27, .cell 3 4] := rfl
  have h2' : tmps[2]?.getD undef = .pointer (some ⟨s, 0, none⟩) := by simpa using h2
  have h3' : tmps[3]?.getD undef = .pointer (some ⟨k, 0, none⟩) := by simpa using h3
  have hc : w.cell? ⟨k, 0, none⟩ = some (.bool b) := by rw [cell_of_row _ _ _ _ _ _ hk]; rfl
  have hl := run_loadVar_row (P := Tryd.prog) w s 27 27 cs (0, 0) _ hs Tryd.underlying27 rfl (by rw [hz]; kernel_rfl)
  have hb : (loadVar 4 ⟨k, 0, none⟩).run Tryd.prog w = .ok (.bool b) w := by simp [go_sem, hc]
  unfold results
  rw [hr]
  simp [h2', h3', asAddr, hl, hb]
set_option maxRecDepth 100000 in
set_option maxHeartbeats 2000000 in
theorem read_any (A : Option Addr) (n c : Nat) (us : List UInt8) (w : World) (hr : BRow w A n c us) (hn : n ≤ 900000) :
    Calls Tryd.prog 43 #[.slice A n c] w (ReadR w (readS us) (readOk us)) := by
  have hmf : ∀ (fn : Fn) (first cap : Array Value) (w : World), (Instr.makeFunc fn first cap).run Tryd.prog w = .ok (.func fn first cap) w := fun _ _ _ _ => rfl
  have hlen := hr.len
  have hlow : ∀ ad, A = some ad → 0 < n → ad.block < w.heap.size := fun ad hA h0 => Row.lt hr (by omega) ad hA h0
  have hb1 : Below w.heap.size w (((w.alloc (.cells #[.int .i64 0, .int .i64 0, .string ⟨#[]⟩, .int .i64 0, .int .i64 0, .int .i64 0, .int .i64 0, .int .i64 0, .slice none 0 0, .slice none 0 0, .string ⟨#[]⟩, .int .i64 0, .string ⟨#[]⟩] 27)).alloc (.cells #[.bool false] 4)).alloc (.cells #[.slice A n c] 83)) := ((one_new w _).alloc (by simp only [World.size_alloc]; omega) _).alloc (by simp only [World.size_alloc]; omega) _
  have hR : (((w.alloc (.cells #[.int .i64 0, .int .i64 0, .string ⟨#[]⟩, .int .i64 0, .int .i64 0, .int .i64 0, .int .i64 0, .int .i64 0, .slice none 0 0, .slice none 0 0, .string ⟨#[]⟩, .int .i64 0, .string ⟨#[]⟩] 27)).alloc (.cells #[.bool false] 4)).alloc (.cells #[.slice A n c] 83)).heap[w.heap.size + 2]? = some (.cells #[.slice A n c] 83 (0, 0)) := by
    have := heap_alloc_new ((w.alloc (.cells #[.int .i64 0, .int .i64 0, .string ⟨#[]⟩, .int .i64 0, .int .i64 0, .int .i64 0, .int .i64 0, .int .i64 0, .slice none 0 0, .slice none 0 0, .string ⟨#[]⟩, .int .i64 0, .string ⟨#[]⟩] 27)).alloc (.cells #[.bool false] 4)) (.cells #[.slice A n c] 83)
    rw [show ((w.alloc (.cells #[.int .i64 0, .int .i64 0, .string ⟨#[]⟩, .int .i64 0, .int .i64 0, .int .i64 0, .int .i64 0, .int .i64 0, .slice none 0 0, .slice none 0 0, .string ⟨#[]⟩, .int .i64 0, .string ⟨#[]⟩] 27)).alloc (.cells #[.bool false] 4)).heap.size = w.heap.size + 2 by simp] at this
    exact this
  have hK : (((w.alloc (.cells #[.int .i64 0, .int .i64 0, .string ⟨#[]⟩, .int .i64 0, .int .i64 0, .int .i64 0, .int .i64 0, .int .i64 0, .slice none 0 0, .slice none 0 0, .string ⟨#[]⟩, .int .i64 0, .string ⟨#[]⟩] 27)).alloc (.cells #[.bool false] 4)).alloc (.cells #[.slice A n c] 83)).heap[w.heap.size + 1]? = some (.cells #[.bool false] 4 (0, 0)) := by
    have := heap_alloc_new (w.alloc (.cells #[.int .i64 0, .int .i64 0, .string ⟨#[]⟩, .int .i64 0, .int .i64 0, .int .i64 0, .int .i64 0, .int .i64 0, .slice none 0 0, .slice none 0 0, .string ⟨#[]⟩, .int .i64 0, .string ⟨#[]⟩] 27)) (.cells #[.bool false] 4)
    rw [show (w.alloc (.cells #[.int .i64 0, .int .i64 0, .string ⟨#[]⟩, .int .i64 0, .int .i64 0, .int .i64 0, .int .i64 0, .int .i64 0, .slice none 0 0, .slice none 0 0, .string ⟨#[]⟩, .int .i64 0, .string ⟨#[]⟩] 27)).heap.size = w.heap.size + 1 by simp] at this
    exact (Below.heap_alloc _ _ _ (by simp)).trans this
  have hS : (((w.alloc (.cells #[.int .i64 0, .int .i64 0, .string ⟨#[]⟩, .int .i64 0, .int .i64 0, .int .i64 0, .int .i64 0, .int .i64 0, .slice none 0 0, .slice none 0 0, .string ⟨#[]⟩, .int .i64 0, .string ⟨#[]⟩] 27)).alloc (.cells #[.bool false] 4)).alloc (.cells #[.slice A n c] 83)).heap[w.heap.size]? = some (.cells zeroA 27 (0, 0)) :=
    (Below.heap_alloc _ _ _ (by simp only [World.size_alloc]; omega)).trans ((Below.heap_alloc _ _ _ (by simp)).trans (heap_alloc_new w (.cells #[.int .i64 0, .int .i64 0, .string ⟨#[]⟩, .int .i64 0, .int .i64 0, .int .i64 0, .int .i64 0, .int .i64 0, .slice none 0 0, .slice none 0 0, .string ⟨#[]⟩, .int .i64 0, .string ⟨#[]⟩] 27)))
  have hz : w.heap.size + 2 < (((w.alloc (.cells #[.int .i64 0, .int .i64 0, .string ⟨#[]⟩, .int .i64 0, .int .i64 0, .int .i64 0, .int .i64 0, .int .i64 0, .slice none 0 0, .slice none 0 0, .string ⟨#[]⟩, .int .i64 0, .string ⟨#[]⟩] 27)).alloc (.cells #[.bool false] 4)).alloc (.cells #[.slice A n c] 83)).heap.size := by simp
  have hrd : RdAt (((w.alloc (.cells #[.int .i64 0, .int .i64 0, .string ⟨#[]⟩, .int .i64 0, .int .i64 0, .int .i64 0, .int .i64 0, .int .i64 0, .slice none 0 0, .slice none 0 0, .string ⟨#[]⟩, .int .i64 0, .string ⟨#[]⟩] 27)).alloc (.cells #[.bool false] 4)).alloc (.cells #[.slice A n c] 83)) w.heap.size (w.heap.size + 2) us := ⟨⟨A, n, c, hR, Row.later hr hb1, hlow⟩, by omega⟩
  have HB1 := Lib.hid hb1; have HK1 := Lib.hid hK; have HS1 := Lib.hid hS; have HZ1 := Lib.hid hz; have HR1 := Lib.hid hrd
  have HOK : Hid (readOk us = ((parse us).2.2 && decide ((parse us).2.1.length = 0))) := Lib.hid rfl
  have HRS : Hid (readS us = if readOk us = true then (parse us).1 else zeroS) := Lib.hid rfl
  have HST : Hid (∀ y, RdAt y w.heap.size (w.heap.size + 2) us → Calls Tryd.prog 66 #[.pointer (some ⟨w.heap.size + 2, 0, none⟩)] y (ReadsS w.heap.size (w.heap.size + 2) y (parse us).1 (parse us).2.1 (parse us).2.2)) := Lib.hid fun y h => rdStatement _ _ us y h (by omega)
  clear hlow hb1 hR hK hS hz hrd hlen hr
  generalize readS us = RS at HRS ⊢
  generalize readOk us = OK at HOK HRS ⊢
  generalize parse us = T at HOK HRS HST
  obtain ⟨s, rest, ok⟩ := T
  simp only at HOK HRS HST
  go_enter_defers Tryd.func43, Tryd.ntmps43
  go_wp2_with fail
  rw [show w.heap.size + 1 + 1 = w.heap.size + 2 from rfl]
  generalize ((w.alloc (.cells #[.int .i64 0, .int .i64 0, .string ⟨#[]⟩, .int .i64 0, .int .i64 0, .int .i64 0, .int .i64 0, .int .i64 0, .slice none 0 0, .slice none 0 0, .string ⟨#[]⟩, .int .i64 0, .string ⟨#[]⟩] 27)).alloc (.cells #[.bool false] 4)).alloc (.cells #[.slice A n c] 83) = w1 at HB1 HK1 HS1 HZ1 HR1 ⊢
  refine (HST.out w1 HR1.out).mono ?_
  rintro e y1 ⟨hb, ⟨hok, ⟨A1, n1, c1, B1, m1, k1, rfl, hl, hp, hna, hnb⟩, hrd⟩ | ⟨hok, rfl⟩⟩
  · obtain ⟨⟨A', n', c', hR', hr', -⟩, -⟩ := hrd
    have hlr : rest.length = n' := hr'.len
    clear hr'
    have HB2 := Lib.hid (HB1.out.trans (hb.below (B := w.heap.size) (by omega) HB1.out.size))
    have HS2 := Lib.hid ((hb.block w.heap.size (by have := HZ1.out; omega) (by omega)).trans HS1.out)
    have HK2 := Lib.hid ((hb.block (w.heap.size + 1) (by have := HZ1.out; omega) (by omega)).trans HK1.out)
    have HZ2 : Hid (w.heap.size + 2 < y1.heap.size) := Lib.hid (Nat.lt_of_lt_of_le HZ1.out hb.size)
    have HNA : Hid (∀ ad, A1 = some ad → w.heap.size + 2 < ad.block) := Lib.hid fun ad hA => Nat.lt_of_lt_of_le HZ1.out (hna ad hA).1
    have HNB : Hid (∀ ad, B1 = some ad → w.heap.size + 2 < ad.block) := Lib.hid fun ad hA => Nat.lt_of_lt_of_le HZ1.out (hnb ad hA).1
    have HMA : Hid (∀ ad, A1 = some ad → ad.block < y1.heap.size) := Lib.hid fun ad hA => (hna ad hA).2
    have HMB : Hid (∀ ad, B1 = some ad → ad.block < y1.heap.size) := Lib.hid fun ad hA => (hnb ad hA).2
    have HL2 := Lib.hid hl; have HP2 := Lib.hid hp
    obtain ⟨sa, sn, sp, st, sk, s5, s6, s7, sl, spn, s10, s11, s12⟩ := s
    unfold stmV
    simp only
    have hcR : (y1.setRow w.heap.size #[.int .i64 sa, .int .i64 sn, .string sp, .int .i64 st, .int .i64 sk, .int .i64 s5, .int .i64 s6, .int .i64 s7, .slice A1 n1 c1, .slice B1 m1 k1, .string s10, .int .i64 s11, .string s12]).cell? ⟨w.heap.size + 2, 0, none⟩ = some (.slice A' n' c') := by
      rw [cell_of_row _ _ _ _ _ _ ((setRow_other _ _ _ _ (by omega)).trans hR')]; rfl
    have HSR : Hid ((y1.setRow w.heap.size #[.int .i64 sa, .int .i64 sn, .string sp, .int .i64 st, .int .i64 sk, .int .i64 s5, .int .i64 s6, .int .i64 s7, .slice A1 n1 c1, .slice B1 m1 k1, .string s10, .int .i64 s11, .string s12]).heap[w.heap.size]? = some (.cells #[.int .i64 sa, .int .i64 sn, .string sp, .int .i64 st, .int .i64 sk, .int .i64 s5, .int .i64 s6, .int .i64 s7, .slice A1 n1 c1, .slice B1 m1 k1, .string s10, .int .i64 s11, .string s12] 27 (0, 0))) := Lib.hid (setRow_heap _ _ _ _ _ _ HS2.out)
    have HKR : Hid ((y1.setRow w.heap.size #[.int .i64 sa, .int .i64 sn, .string sp, .int .i64 st, .int .i64 sk, .int .i64 s5, .int .i64 s6, .int .i64 s7, .slice A1 n1 c1, .slice B1 m1 k1, .string s10, .int .i64 s11, .string s12]).heap[w.heap.size + 1]? = some (.cells #[.bool false] 4 (0, 0))) := Lib.hid ((setRow_other _ _ _ _ (by omega)).trans HK2.out)
    have HBR : Hid (Below w.heap.size w (y1.setRow w.heap.size #[.int .i64 sa, .int .i64 sn, .string sp, .int .i64 st, .int .i64 sk, .int .i64 s5, .int .i64 s6, .int .i64 s7, .slice A1 n1 c1, .slice B1 m1 k1, .string s10, .int .i64 s11, .string s12])) := Lib.hid (below_setRow HB2.out (Nat.le_refl _) _)
    have HKP : Hid (∀ k, k ≠ w.heap.size → (y1.setRow w.heap.size #[.int .i64 sa, .int .i64 sn, .string sp, .int .i64 st, .int .i64 sk, .int .i64 s5, .int .i64 s6, .int .i64 s7, .slice A1 n1 c1, .slice B1 m1 k1, .string s10, .int .i64 s11, .string s12]).heap[k]? = y1.heap[k]?) := Lib.hid fun k hk => setRow_other _ _ _ _ hk
    have HYS : Hid (y1.heap.size = (y1.setRow w.heap.size #[.int .i64 sa, .int .i64 sn, .string sp, .int .i64 st, .int .i64 sk, .int .i64 s5, .int .i64 s6, .int .i64 s7, .slice A1 n1 c1, .slice B1 m1 k1, .string s10, .int .i64 s11, .string s12]).heap.size) := Lib.hid (by rw [setRow_size])
    have HZR : Hid (w.heap.size + 2 < (y1.setRow w.heap.size #[.int .i64 sa, .int .i64 sn, .string sp, .int .i64 st, .int .i64 sk, .int .i64 s5, .int .i64 s6, .int .i64 s7, .slice A1 n1 c1, .slice B1 m1 k1, .string s10, .int .i64 s11, .string s12]).heap.size) := Lib.hid (by rw [setRow_size]; exact HZ2.out)
    clear hb hl hp hna hnb hR' HST
    by_cases h0 : n' = 0
    · have e0 : (n' : Int) = 0 := by omega
      have HOK2 : Hid (OK = true) := by unfold Hid; rw [HOK.out, hok]; simp [hlr, h0]
      have HRS2 : Hid (RS = ⟨sa, sn, sp, st, sk, s5, s6, s7, sl, spn, s10, s11, s12⟩) := by unfold Hid; rw [HRS.out, HOK2.out]; rfl
      go_wp2_with (refine wpList_store_row rfl 27 (.tmp 2) (.tmp 8) rfl w.heap.size #[.int .i64 sa, .int .i64 sn, .string sp, .int .i64 st, .int .i64 sk, .int .i64 s5, .int .i64 s6, .int .i64 s7, .slice A1 n1 c1, .slice B1 m1 k1, .string s10, .int .i64 s11, .string s12] rfl rfl 27 _ HS2.out (by kernel_rfl) rfl (by simp [Value.oneCell']) ?_)
      refine (require_yes _ _).mono ?_
      rintro e w2 ⟨rfl, rfl⟩
      clear hcR
      generalize (y1.setRow w.heap.size #[.int .i64 sa, .int .i64 sn, .string sp, .int .i64 st, .int .i64 sk, .int .i64 s5, .int .i64 s6, .int .i64 s7, .slice A1 n1 c1, .slice B1 m1 k1, .string s10, .int .i64 s11, .string s12]) = y2 at HSR HKR HBR HKP HZR HYS ⊢
      obtain ⟨hc0, hc1, hc2, hc3, hc4, hc5, hc6, hc7, hc8, hc9, hc10, hc11, hc12⟩ := stm_cells (A := A1) (n := n1) (c := c1) (B := B1) (m := m1) (k := k1) (s := ⟨sa, sn, sp, st, sk, s5, s6, s7, sl, spn, s10, s11, s12⟩) HSR.out
      have HKS : Hid ((y2.setRow w.heap.size #[.int .i64 sa, .int .i64 sn, .string sp, .int .i64 st, .int .i64 sk, .int .i64 s5, .int .i64 s6, .int .i64 s7, .slice A1 n1 c1, .slice B1 m1 k1, .string s10, .int .i64 s11, .string s12]).heap[w.heap.size + 1]? = _) := Lib.hid ((setRow_other _ _ _ _ (by omega)).trans HKR.out)
      have hcK : (y2.setRow w.heap.size #[.int .i64 sa, .int .i64 sn, .string sp, .int .i64 st, .int .i64 sk, .int .i64 s5, .int .i64 s6, .int .i64 s7, .slice A1 n1 c1, .slice B1 m1 k1, .string s10, .int .i64 s11, .string s12]).cell? ⟨w.heap.size + 1, 0, none⟩ = some (.bool false) := by rw [cell_of_row _ _ _ _ _ _ HKS.out]; rfl
      have hzK : (y2.setRow w.heap.size #[.int .i64 sa, .int .i64 sn, .string sp, .int .i64 st, .int .i64 sk, .int .i64 s5, .int .i64 s6, .int .i64 s7, .slice A1 n1 c1, .slice B1 m1 k1, .string s10, .int .i64 s11, .string s12]).frozen? ⟨w.heap.size + 1, 0, none⟩ = false := frozen_of_row _ _ _ _ _ HKS.out
      go_wp2_with (refine wpList_store_row rfl 27 (.tmp 2) (.tmp 14) rfl w.heap.size #[.int .i64 sa, .int .i64 sn, .string sp, .int .i64 st, .int .i64 sk, .int .i64 s5, .int .i64 s6, .int .i64 s7, .slice A1 n1 c1, .slice B1 m1 k1, .string s10, .int .i64 s11, .string s12] rfl rfl 27 _ HSR.out (by kernel_rfl) rfl (by simp [Value.oneCell']) ?_)
      have hs3 : ((y2.setRow w.heap.size #[.int .i64 sa, .int .i64 sn, .string sp, .int .i64 st, .int .i64 sk, .int .i64 s5, .int .i64 s6, .int .i64 s7, .slice A1 n1 c1, .slice B1 m1 k1, .string s10, .int .i64 s11, .string s12]).setCell ⟨w.heap.size + 1, 0, none⟩ (.bool true)).heap[w.heap.size]? = some (.cells #[.int .i64 sa, .int .i64 sn, .string sp, .int .i64 st, .int .i64 sk, .int .i64 s5, .int .i64 s6, .int .i64 s7, .slice A1 n1 c1, .slice B1 m1 k1, .string s10, .int .i64 s11, .string s12] 27 (0, 0)) := (Below.heap_setCell _ _ _ _ (by show w.heap.size ≠ w.heap.size + 1; omega)).trans (setRow_heap _ _ _ _ _ _ HSR.out)
      have hk3 : ((y2.setRow w.heap.size #[.int .i64 sa, .int .i64 sn, .string sp, .int .i64 st, .int .i64 sk, .int .i64 s5, .int .i64 s6, .int .i64 s7, .slice A1 n1 c1, .slice B1 m1 k1, .string s10, .int .i64 s11, .string s12]).setCell ⟨w.heap.size + 1, 0, none⟩ (.bool true)).heap[w.heap.size + 1]? = some (.cells #[.bool true] 4 (0, 0)) := heap_setCell_same _ _ _ _ _ _ HKS.out
      have hb3 : Below w.heap.size w ((y2.setRow w.heap.size #[.int .i64 sa, .int .i64 sn, .string sp, .int .i64 st, .int .i64 sk, .int .i64 s5, .int .i64 s6, .int .i64 s7, .slice A1 n1 c1, .slice B1 m1 k1, .string s10, .int .i64 s11, .string s12]).setCell ⟨w.heap.size + 1, 0, none⟩ (.bool true)) := (below_setRow HBR.out (Nat.le_refl _) _).setCell (p := ⟨w.heap.size + 1, 0, none⟩) (by show w.heap.size ≤ w.heap.size + 1; omega) _
      have hkp : ∀ k, w.heap.size + 2 < k → ((y2.setRow w.heap.size #[.int .i64 sa, .int .i64 sn, .string sp, .int .i64 st, .int .i64 sk, .int .i64 s5, .int .i64 s6, .int .i64 s7, .slice A1 n1 c1, .slice B1 m1 k1, .string s10, .int .i64 s11, .string s12]).setCell ⟨w.heap.size + 1, 0, none⟩ (.bool true)).heap[k]? = y1.heap[k]? := fun k hk => (Below.heap_setCell _ _ _ _ (by show k ≠ w.heap.size + 1; omega)).trans ((setRow_other _ _ _ _ (by omega)).trans (HKP.out k (by omega)))
      have hss : ((y2.setRow w.heap.size #[.int .i64 sa, .int .i64 sn, .string sp, .int .i64 st, .int .i64 sk, .int .i64 s5, .int .i64 s6, .int .i64 s7, .slice A1 n1 c1, .slice B1 m1 k1, .string s10, .int .i64 s11, .string s12]).setCell ⟨w.heap.size + 1, 0, none⟩ (.bool true)).heap.size = y2.heap.size := by rw [World.size_setCell, setRow_size]
      have hzz : w.heap.size + 2 < ((y2.setRow w.heap.size #[.int .i64 sa, .int .i64 sn, .string sp, .int .i64 st, .int .i64 sk, .int .i64 s5, .int .i64 s6, .int .i64 s7, .slice A1 n1 c1, .slice B1 m1 k1, .string s10, .int .i64 s11, .string s12]).setCell ⟨w.heap.size + 1, 0, none⟩ (.bool true)).heap.size := by rw [World.size_setCell, setRow_size]; exact HZR.out
      generalize (y2.setRow w.heap.size #[.int .i64 sa, .int .i64 sn, .string sp, .int .i64 st, .int .i64 sk, .int .i64 s5, .int .i64 s6, .int .i64 s7, .slice A1 n1 c1, .slice B1 m1 k1, .string s10, .int .i64 s11, .string s12]).setCell ⟨w.heap.size + 1, 0, none⟩ (.bool true) = w3 at hs3 hk3 hb3 hkp hzz hss ⊢
      refine leaves_cons (f := 65) (args := #[.pointer (some ⟨w.heap.size, 0, none⟩), .pointer (some ⟨w.heap.size + 1, 0, none⟩)]) (by simp) (by simp [go_sem]) ?_
      refine (catch_idle ⟨w.heap.size, 0, none⟩ ⟨w.heap.size + 1, 0, none⟩ w3).mono ?_
      rintro e u' w4 ⟨rfl, rfl, hb4⟩
      change Leaves _ _ _ _ [] FrameMode.returning _
      refine ⟨_, results_read rfl rfl ((hb4.block _ (by omega)).trans hs3) rfl ((hb4.block _ (by omega)).trans hk3), A1, n1, c1, B1, m1, k1, ?_, ?_, ?_, (fun ad hA => ⟨by have := HNA.out ad hA; omega, by have := HMA.out ad hA; have := hb4.size; have := HYS.out; omega⟩), (fun ad hA => ⟨by have := HNB.out ad hA; omega, by have := HMB.out ad hA; have := hb4.size; have := HYS.out; omega⟩), hb3.trans (hb4.mono hb3.size)⟩
      · rw [HRS2.out, HOK2.out]; rfl
      · rw [HRS2.out]; exact (Row.keep HL2.out fun ad hA _ _ => hkp _ (HNA.out ad hA) : IRow w3 A1 n1 c1 sl).later hb4
      · rw [HRS2.out]; exact (Row.keep HP2.out fun ad hA _ _ => hkp _ (HNB.out ad hA) : PRow w3 B1 m1 k1 spn).later hb4
    · have e0 : (n' == 0) = false := by simpa using h0
      have e1 : ((n' : Int) == 0) = false := by simp; omega
      have HOK2 : Hid (OK = false) := by unfold Hid; rw [HOK.out, hok]; simp [hlr, h0]
      have HRS2 : Hid (RS = zeroS) := by unfold Hid; rw [HRS.out, HOK2.out]; rfl
      go_wp2_with (refine wpList_store_row rfl 27 (.tmp 2) (.tmp 8) rfl w.heap.size #[.int .i64 sa, .int .i64 sn, .string sp, .int .i64 st, .int .i64 sk, .int .i64 s5, .int .i64 s6, .int .i64 s7, .slice A1 n1 c1, .slice B1 m1 k1, .string s10, .int .i64 s11, .string s12] rfl rfl 27 _ HS2.out (by kernel_rfl) rfl (by simp [Value.oneCell']) ?_)
      refine (require_no _ _).mono ?_
      rintro e w2 ⟨rfl, rfl⟩
      clear hcR
      generalize (y1.setRow w.heap.size #[.int .i64 sa, .int .i64 sn, .string sp, .int .i64 st, .int .i64 sk, .int .i64 s5, .int .i64 s6, .int .i64 s7, .slice A1 n1 c1, .slice B1 m1 k1, .string s10, .int .i64 s11, .string s12]) = y2 at HSR HKR HBR HKP HZR HYS ⊢
      go_wp2
      refine leaves_cons (f := 65) (args := #[.pointer (some ⟨w.heap.size, 0, none⟩), .pointer (some ⟨w.heap.size + 1, 0, none⟩)]) (by simp) (by simp [go_sem]) ?_
      refine (catch_panicking w.heap.size (w.heap.size + 1) _ false y2 HSR.out rfl HKR.out (by omega) []).mono ?_
      rintro e u' w'' ⟨rfl, rfl, rfl⟩
      have hs3 : (((y2.alloc (.cells #[] 80)).setRow w.heap.size zeroA).setCell ⟨w.heap.size + 1, 0, none⟩ (.bool false)).heap[w.heap.size]? = some (.cells zeroA 27 (0, 0)) :=
        (Below.heap_setCell _ _ _ _ (by show w.heap.size ≠ w.heap.size + 1; omega)).trans (setRow_heap _ _ _ _ _ _ ((Below.heap_alloc _ _ _ (Array.getElem?_eq_some_iff.1 HSR.out).1).trans HSR.out))
      have hk3 : (((y2.alloc (.cells #[] 80)).setRow w.heap.size zeroA).setCell ⟨w.heap.size + 1, 0, none⟩ (.bool false)).heap[w.heap.size + 1]? = some (.cells #[.bool false] 4 (0, 0)) :=
        heap_setCell_same _ _ _ _ _ _ ((setRow_other _ _ _ _ (by omega)).trans ((Below.heap_alloc _ _ _ (Array.getElem?_eq_some_iff.1 HKR.out).1).trans HKR.out))
      have hb3 : Below w.heap.size w (((y2.alloc (.cells #[] 80)).setRow w.heap.size zeroA).setCell ⟨w.heap.size + 1, 0, none⟩ (.bool false)) :=
        (below_setRow (HBR.out.alloc HBR.out.size _) (Nat.le_refl _) _).setCell (p := ⟨w.heap.size + 1, 0, none⟩) (by show w.heap.size ≤ w.heap.size + 1; omega) _
      generalize ((y2.alloc (.cells #[] 80)).setRow w.heap.size zeroA).setCell ⟨w.heap.size + 1, 0, none⟩ (.bool false) = w3 at hs3 hk3 hb3 ⊢
      change Leaves _ _ _ _ [] FrameMode.returning _
      refine ⟨_, results_read rfl rfl hs3 rfl hk3, none, 0, 0, none, 0, 0, ?_, ?_, ?_, (fun _ h => by cases h), (fun _ h => by cases h), hb3⟩
      · rw [HRS2.out, HOK2.out]; rfl
      · rw [HRS2.out]; exact Row.nilRow _ _
      · rw [HRS2.out]; exact Row.nilRow _ _
  · have HB2 := Lib.hid (HB1.out.trans (hb.below (B := w.heap.size) (by omega) HB1.out.size))
    have HS2 := Lib.hid ((hb.block w.heap.size (by have := HZ1.out; omega) (by omega)).trans HS1.out)
    have HK2 := Lib.hid ((hb.block (w.heap.size + 1) (by have := HZ1.out; omega) (by omega)).trans HK1.out)
    have HOK2 : Hid (OK = false) := by unfold Hid; rw [HOK.out, hok]; rfl
    have HRS2 : Hid (RS = zeroS) := by unfold Hid; rw [HRS.out, HOK2.out]; rfl
    go_wp2
    refine leaves_cons (f := 65) (args := #[.pointer (some ⟨w.heap.size, 0, none⟩), .pointer (some ⟨w.heap.size + 1, 0, none⟩)]) (by simp) (by simp [go_sem]) ?_
    refine (catch_panicking w.heap.size (w.heap.size + 1) _ false y1 HS2.out rfl HK2.out (by omega) []).mono ?_
    rintro e u' w'' ⟨rfl, rfl, rfl⟩
    have hs3 : (((y1.alloc (.cells #[] 80)).setRow w.heap.size zeroA).setCell ⟨w.heap.size + 1, 0, none⟩ (.bool false)).heap[w.heap.size]? = some (.cells zeroA 27 (0, 0)) :=
      (Below.heap_setCell _ _ _ _ (by show w.heap.size ≠ w.heap.size + 1; omega)).trans (setRow_heap _ _ _ _ _ _ ((Below.heap_alloc _ _ _ (Array.getElem?_eq_some_iff.1 HS2.out).1).trans HS2.out))
    have hk3 : (((y1.alloc (.cells #[] 80)).setRow w.heap.size zeroA).setCell ⟨w.heap.size + 1, 0, none⟩ (.bool false)).heap[w.heap.size + 1]? = some (.cells #[.bool false] 4 (0, 0)) :=
      heap_setCell_same _ _ _ _ _ _ ((setRow_other _ _ _ _ (by omega)).trans ((Below.heap_alloc _ _ _ (Array.getElem?_eq_some_iff.1 HK2.out).1).trans HK2.out))
    have hb3 : Below w.heap.size w (((y1.alloc (.cells #[] 80)).setRow w.heap.size zeroA).setCell ⟨w.heap.size + 1, 0, none⟩ (.bool false)) :=
      (below_setRow (HB2.out.alloc HB2.out.size _) (Nat.le_refl _) _).setCell (p := ⟨w.heap.size + 1, 0, none⟩) (by show w.heap.size ≤ w.heap.size + 1; omega) _
    generalize ((y1.alloc (.cells #[] 80)).setRow w.heap.size zeroA).setCell ⟨w.heap.size + 1, 0, none⟩ (.bool false) = w3 at hs3 hk3 hb3 ⊢
    change Leaves _ _ _ _ [] FrameMode.returning _
    refine ⟨_, results_read rfl rfl hs3 rfl hk3, none, 0, 0, none, 0, 0, ?_, ?_, ?_, (fun _ h => by cases h), (fun _ h => by cases h), hb3⟩
    · rw [HRS2.out, HOK2.out]; rfl
    · rw [HRS2.out]; exact Row.nilRow _ _
    · rw [HRS2.out]; exact Row.nilRow _ _
end Go.Proofs.YtnokhjpileamaaaDoor
/- The walk of statement.Decode. -/
namespace Go.Proofs.YtnokhjpileamaaaDoor
open Go.RowKit
theorem takeS_size (us : List UInt8) (most : Int) (h0 : 0 ≤ most) : ((takeS us most).1.size : Int) ≤ most := by
  unfold takeS
  split
  · rename_i h
    have h1 := h.le; have h2 := h.nn
    simp only [strOf_size, List.length_take]
    omega
  · exact h0
theorem takeL_size (us : List UInt8) (most : Int) (h0 : 0 ≤ most) : ((takeL us most).1.length : Int) ≤ most := by
  unfold takeL
  split
  · rename_i h
    have h1 := h.le; have h2 := h.nn
    simp only [intsAt_len]
    omega
  · exact h0
theorem pinsL_size (us : List UInt8) : ∀ j, (pinsBs (pinsL j us).1).length ≤ 56 * j
  | 0 => by show (pinsBs []).length ≤ _; simp [pinsBs]
  | j + 1 => by
    show (pinsBs ((pinsL j us).1 ++ [pinAt (pinsL j us).2.1])).length ≤ _
    rw [pinsBs_snoc, List.length_append]
    have h1 := pinsL_size us j
    have h2 : (pinBs (pinAt (pinsL j us).2.1)).length ≤ 56 := by
      unfold pinBs
      rw [List.length_append, listB_len, textS_len]
      have : ((pinAt (pinsL j us).2.1).digest.size : Int) ≤ 32 := takeS_size _ _ (by omega)
      simp only [List.length_cons, List.length_nil]
      omega
    omega
theorem takeP_ok {us : List UInt8} (h : (takeP us).2.2 = true) : 0 ≤ (takeI us).1 ∧ (takeI us).1 ≤ 64 := by
  unfold takeP at h
  simp only [Bool.and_eq_true] at h
  have := h.1.2
  simpa [btw] using this
theorem takeP_size {us : List UInt8} (h : (takeP us).2.2 = true) : (takeP us).1.length ≤ 64 ∧ (pinsBs (takeP us).1).length ≤ 4000 := by
  have h1 := takeP_ok h
  have h2 := pinsL_size (takeI us).2.1 (takeI us).1.toNat
  have h3 := pinsL_len (takeI us).2.1 (takeI us).1.toNat
  exact ⟨by show (pinsL _ _).1.length ≤ _; rw [h3]; omega, by show (pinsBs (pinsL _ _).1).length ≤ _; omega⟩
/-- The parts of what is read. -/
theorem parse_parts (us : List UInt8) : ∃ (X0 : Int × List UInt8 × Bool) (X1 : Int × List UInt8 × Bool) (X2 : ByteArray × List UInt8 × Bool) (X3 : Int × List UInt8 × Bool) (X4 : Int × List UInt8 × Bool) (X5 : Int × List UInt8 × Bool) (X6 : Int × List UInt8 × Bool) (X7 : Int × List UInt8 × Bool) (X8 : List Int × List UInt8 × Bool) (X9 : List PinD × List UInt8 × Bool) (X10 : ByteArray × List UInt8 × Bool) (X11 : Int × List UInt8 × Bool) (X12 : ByteArray × List UInt8 × Bool), X0 = takeI us ∧ X1 = takeI X0.2.1 ∧ X2 = takeS X1.2.1 32 ∧ X3 = takeI X2.2.1 ∧ X4 = takeI X3.2.1 ∧ X5 = takeI X4.2.1 ∧ X6 = takeI X5.2.1 ∧ X7 = takeI X6.2.1 ∧ X8 = takeL X7.2.1 64 ∧ X9 = takeP X8.2.1 ∧ X10 = takeS X9.2.1 4096 ∧ X11 = takeI X10.2.1 ∧ X12 = takeS X11.2.1 32 ∧ parse us = (⟨X0.1, X1.1, X2.1, X3.1, X4.1, X5.1, X6.1, X7.1, X8.1, X9.1, X10.1, X11.1, X12.1⟩, X12.2.1, X0.2.2 && X1.2.2 && X2.2.2 && X3.2.2 && X4.2.2 && X5.2.2 && X6.2.2 && X7.2.2 && X8.2.2 && X9.2.2 && X10.2.2 && X11.2.2 && X12.2.2) :=
  ⟨_, _, _, _, _, _, _, _, _, _, _, _, _, rfl, rfl, rfl, rfl, rfl, rfl, rfl, rfl, rfl, rfl, rfl, rfl, rfl, rfl⟩
/-- What bytes say is not much. -/
theorem parse_small {us : List UInt8} (h : (parse us).2.2 = true) : Small (parse us).1 ∧ (parse us).1.list.length ≤ 64 ∧ (parse us).1.pins.length ≤ 64 := by
  obtain ⟨X0, X1, X2, X3, X4, X5, X6, X7, X8, X9, X10, X11, X12, h0, h1, h2, h3, h4, h5, h6, h7, h8, h9, h10, h11, h12, hp⟩ := parse_parts us
  rw [hp] at h ⊢
  simp only [Bool.and_eq_true] at h
  have k9 : X9.2.2 = true := h.1.1.1.2
  have z2 := takeS_size X1.2.1 32 (by omega)
  have z8 := takeL_size X7.2.1 64 (by omega)
  rw [h9] at k9
  have z9 := takeP_size k9
  have z10 := takeS_size X9.2.1 4096 (by omega)
  have z12 := takeS_size X11.2.1 32 (by omega)
  rw [← h2] at z2; rw [← h8] at z8; rw [← h9] at z9; rw [← h10] at z10; rw [← h12] at z12
  clear h k9 hp h0 h1 h2 h3 h4 h5 h6 h7 h8 h9 h10 h11 h12
  exact ⟨⟨by simp only; omega, by simp only; omega, by simp only; omega, by simp only; omega, by simp only; omega, by simp only; omega⟩, by simp only; omega, z9.1⟩
def DecR (w : World) (s : Stm) (E : Int) (e : Ending) (w' : World) : Prop :=
  ∃ A n c B m k, e = .returned (.tuple #[stmV s A n c B m k, .int .i64 E]) ∧ IRow w' A n c s.list ∧ PRow w' B m k s.pins ∧ Below w.heap.size w w'
noncomputable def decOk (us : List UInt8) : Bool := readOk us && decide (checkV (readS us) = 0) && sealedB (readS us)
noncomputable def decS (us : List UInt8) : Stm := if decOk us = true then readS us else zeroS
noncomputable def decE (us : List UInt8) : Int := if decOk us = true then 0 else 1
theorem results_dec {tmps : Array Value} {w : World} {s : Nat} {cs : Array Value} {v : Value} (h2 : tmps.getD 2 undef = .pointer (some ⟨s, 0, none⟩)) (h3 : tmps.getD 3 undef = v)
    (hs : w.heap[s]? = some (.cells cs 27 (0, 0))) (hz : cs.size = 13) :
    (results Tryd.f24 tmps).run Tryd.prog w = .ok (.tuple #[.agg cs, v]) w := by
  have hr : Tryd.f24.results = #[.cell 2 27, .tmp 3] := rfl
  have h2' : tmps[2]?.getD undef = .pointer (some ⟨s, 0, none⟩) := by simpa using h2
  have h3' : tmps[3]?.getD undef = v := by simpa using h3
  have hl := run_loadVar_row (P := Tryd.prog) w s 27 27 cs (0, 0) _ hs Tryd.underlying27 rfl (by rw [hz]; kernel_rfl)
  unfold results
  rw [hr]
  simp [h2', h3', asAddr, hl]
set_option maxRecDepth 100000 in
set_option maxHeartbeats 2000000 in
theorem decode_any (A : Option Addr) (n c : Nat) (us : List UInt8) (w : World) (hr : BRow w A n c us) (hn : n ≤ 900000) (hR : Rounds w) :
    Calls Tryd.prog 24 #[.slice A n c] w (DecR w (decS us) (decE us)) := by
  have HRD := Lib.hid (read_any A n c us (w.alloc (.cells #[.int .i64 0, .int .i64 0, .string ⟨#[]⟩, .int .i64 0, .int .i64 0, .int .i64 0, .int .i64 0, .int .i64 0, .slice none 0 0, .slice none 0 0, .string ⟨#[]⟩, .int .i64 0, .string ⟨#[]⟩] 27)) (Row.later hr (one_new w _)) hn)
  have HRO := Lib.hid hR
  have HSM : Hid (readOk us = true → Small (readS us) ∧ (readS us).list.length ≤ 64 ∧ (readS us).pins.length ≤ 64) := Lib.hid fun h => by
    have h2 : (parse us).2.2 = true := by unfold readOk at h; simp only [Bool.and_eq_true] at h; exact h.1
    unfold readS; rw [if_pos h]; exact parse_small h2
  have HOK : Hid (decOk us = (readOk us && decide (checkV (readS us) = 0) && sealedB (readS us))) := Lib.hid rfl
  have HDS : Hid (decS us = if decOk us = true then readS us else zeroS) := Lib.hid rfl
  have HDE : Hid (decE us = if decOk us = true then 0 else 1) := Lib.hid rfl
  clear hr hR
  generalize decS us = DS at HDS ⊢
  generalize decE us = DE at HDE ⊢
  generalize decOk us = OK at HOK HDS HDE
  generalize readS us = s at HRD HSM HOK HDS
  generalize readOk us = ok at HRD HSM HOK
  have hq0 := heap_alloc_new w (.cells #[.int .i64 0, .int .i64 0, .string ⟨#[]⟩, .int .i64 0, .int .i64 0, .int .i64 0, .int .i64 0, .int .i64 0, .slice none 0 0, .slice none 0 0, .string ⟨#[]⟩, .int .i64 0, .string ⟨#[]⟩] 27)
  have HQ0 := Lib.hid hq0; clear hq0
  go_enter Tryd.func24, Tryd.ntmps24
  go_wp2_with fail
  refine HRD.out.mono ?_
  rintro e y1 ⟨A1, n1, c1, B1, m1, k1, rfl, hl, hp, hna, hnb, hb⟩
  have HNA : Hid (∀ ad, A1 = some ad → ad.block ≠ w.heap.size) := Lib.hid fun ad hA => by have := (hna ad hA).1; simp at this; omega
  have HNB : Hid (∀ ad, B1 = some ad → ad.block ≠ w.heap.size) := Lib.hid fun ad hA => by have := (hnb ad hA).1; simp at this; omega
  clear hna hnb
  have HB1 := Lib.hid ((one_new w (.cells #[.int .i64 0, .int .i64 0, .string ⟨#[]⟩, .int .i64 0, .int .i64 0, .int .i64 0, .int .i64 0, .int .i64 0, .slice none 0 0, .slice none 0 0, .string ⟨#[]⟩, .int .i64 0, .string ⟨#[]⟩] 27)).trans (hb.mono (by simp))); have HQ1 := Lib.hid ((hb.block w.heap.size (by simp)).trans HQ0.out); have HL1 := Lib.hid hl; have HP1 := Lib.hid hp
  have HZ1 : Hid (w.heap.size < y1.heap.size) := Lib.hid (by have := hb.size; simp at this; omega)
  have hln := hl.len; have hpn := hp.len
  clear hb hl hp HRD HQ0
  have HCK : Hid (ok = true → ∀ y, Below y1.heap.size y1 y → Calls Tryd.prog 26 #[stmV s A1 n1 c1 B1 m1 k1] y (SaysL (.int .i64 (checkV s)) y)) := Lib.hid fun h y hy => check_any s A1 n1 c1 B1 m1 k1 y (HL1.out.later hy) (HP1.out.later hy) (by have := (HSM.out h).2.1; omega) (by have := (HSM.out h).2.2; omega) (by have := (HSM.out h).1.body; omega)
  have HSL : Hid (ok = true → ∀ y, Below y1.heap.size y1 y → Calls Tryd.prog 21 #[stmV s A1 n1 c1 B1 m1 k1] y (SaysL (.bool (sealedB s)) y)) := Lib.hid fun h y hy => sealed_any s A1 n1 c1 B1 m1 k1 y (HL1.out.later hy) (HP1.out.later hy) (HSM.out h).1 (HRO.out.later (HB1.out.trans (hy.mono HB1.out.size)))
  clear hln hpn HSM
  generalize checkV s = cv at HOK HCK
  generalize sealedB s = sv at HOK HSL
  obtain ⟨sa, sn, sp, st, sk, s5, s6, s7, sl, spn, s10, s11, s12⟩ := s
  unfold stmV at HCK HSL ⊢
  simp only at HL1 HP1 HCK HSL
  cases ok
  · have HV : Hid (OK = false) := by unfold Hid; rw [HOK.out]; rfl
    go_wp2_with (refine wpList_store_row rfl 27 (.tmp 2) (.tmp 23) rfl w.heap.size zeroA rfl rfl 27 _ ((Below.heap_alloc _ _ _ HZ1.out).trans HQ1.out) (by kernel_rfl) rfl (by simp [Value.oneCell', zeroA]) ?_)
    refine bodyPost_ret (results_dec rfl rfl (setRow_heap _ _ _ zeroA _ _ ((Below.heap_alloc y1 (.cells #[.int .i64 sa, .int .i64 sn, .string sp, .int .i64 st, .int .i64 sk, .int .i64 s5, .int .i64 s6, .int .i64 s7, .slice A1 n1 c1, .slice B1 m1 k1, .string s10, .int .i64 s11, .string s12] 27) _ HZ1.out).trans HQ1.out)) rfl) rfl ⟨none, 0, 0, none, 0, 0, by rw [HDS.out, HDE.out, HV.out]; rfl, by rw [HDS.out, HV.out]; exact Row.nilRow _ _, by rw [HDS.out, HV.out]; exact Row.nilRow _ _, below_setRow (HB1.out.alloc HB1.out.size _) (Nat.le_refl _) _⟩
  · have HZ2 : Hid (y1.heap.size < (y1.alloc (.cells #[.int .i64 sa, .int .i64 sn, .string sp, .int .i64 st, .int .i64 sk, .int .i64 s5, .int .i64 s6, .int .i64 s7, .slice A1 n1 c1, .slice B1 m1 k1, .string s10, .int .i64 s11, .string s12] 27)).heap.size) := Lib.hid (by simp)
    have HX2 := Lib.hid (heap_alloc_new y1 (.cells #[.int .i64 sa, .int .i64 sn, .string sp, .int .i64 st, .int .i64 sk, .int .i64 s5, .int .i64 s6, .int .i64 s7, .slice A1 n1 c1, .slice B1 m1 k1, .string s10, .int .i64 s11, .string s12] 27)); have HQ2 := Lib.hid ((Below.heap_alloc y1 (.cells #[.int .i64 sa, .int .i64 sn, .string sp, .int .i64 st, .int .i64 sk, .int .i64 s5, .int .i64 s6, .int .i64 s7, .slice A1 n1 c1, .slice B1 m1 k1, .string s10, .int .i64 s11, .string s12] 27) _ HZ1.out).trans HQ1.out); have HB2 := Lib.hid (HB1.out.alloc HB1.out.size (.cells #[.int .i64 sa, .int .i64 sn, .string sp, .int .i64 st, .int .i64 sk, .int .i64 s5, .int .i64 s6, .int .i64 s7, .slice A1 n1 c1, .slice B1 m1 k1, .string s10, .int .i64 s11, .string s12] 27)); have HL2 := Lib.hid (HL1.out.later (one_new y1 (.cells #[.int .i64 sa, .int .i64 sn, .string sp, .int .i64 st, .int .i64 sk, .int .i64 s5, .int .i64 s6, .int .i64 s7, .slice A1 n1 c1, .slice B1 m1 k1, .string s10, .int .i64 s11, .string s12] 27))); have HP2 := Lib.hid (HP1.out.later (one_new y1 (.cells #[.int .i64 sa, .int .i64 sn, .string sp, .int .i64 st, .int .i64 sk, .int .i64 s5, .int .i64 s6, .int .i64 s7, .slice A1 n1 c1, .slice B1 m1 k1, .string s10, .int .i64 s11, .string s12] 27))); have HN2 := Lib.hid (one_new y1 (.cells #[.int .i64 sa, .int .i64 sn, .string sp, .int .i64 st, .int .i64 sk, .int .i64 s5, .int .i64 s6, .int .i64 s7, .slice A1 n1 c1, .slice B1 m1 k1, .string s10, .int .i64 s11, .string s12] 27))
    go_wp2_with fail
    refine (HCK.out (by first | rfl | trivial) _ HN2.out).mono ?_
    generalize y1.alloc (.cells #[.int .i64 sa, .int .i64 sn, .string sp, .int .i64 st, .int .i64 sk, .int .i64 s5, .int .i64 s6, .int .i64 s7, .slice A1 n1 c1, .slice B1 m1 k1, .string s10, .int .i64 s11, .string s12] 27) = y2 at HZ2 HX2 HQ2 HB2 HL2 HP2 HN2 ⊢
    rintro e y3 ⟨rfl, hb⟩
    have HX3 := Lib.hid ((hb.block _ HZ2.out).trans HX2.out); have HQ3 := Lib.hid ((hb.block w.heap.size (by have := HZ1.out; have := HZ2.out; omega)).trans HQ2.out); have HB3 := Lib.hid (HB2.out.trans (hb.mono HB2.out.size)); have HL3 := Lib.hid (HL2.out.later hb); have HP3 := Lib.hid (HP2.out.later hb); have HN3 := Lib.hid (HN2.out.trans (hb.mono HN2.out.size)); have HZ3 : Hid (y1.heap.size < y3.heap.size) := Lib.hid (Nat.lt_of_lt_of_le HZ2.out hb.size)
    clear hb HX2 HQ2 HB2 HL2 HP2 HN2 HCK HL1 HP1 HQ1
    by_cases h0 : cv = 0
    · subst h0
      obtain ⟨hc0, hc1, hc2, hc3, hc4, hc5, hc6, hc7, hc8, hc9, hc10, hc11, hc12⟩ := stm_cells (A := A1) (n := n1) (c := c1) (B := B1) (m := m1) (k := k1) (s := ⟨sa, sn, sp, st, sk, s5, s6, s7, sl, spn, s10, s11, s12⟩) HX3.out
      go_wp2_with fail
      refine (HSL.out (by first | rfl | trivial) _ HN3.out).mono ?_
      rintro e y4 ⟨rfl, hb⟩
      have HX4 := Lib.hid ((hb.block _ HZ3.out).trans HX3.out); have HQ4 := Lib.hid ((hb.block w.heap.size (by have := HZ1.out; have := HZ3.out; omega)).trans HQ3.out); have HB4 := Lib.hid (HB3.out.trans (hb.mono HB3.out.size)); have HL4 := Lib.hid (HL3.out.later hb); have HP4 := Lib.hid (HP3.out.later hb)
      clear hb HX3 HQ3 HB3 HL3 HP3 HN3 hc0 hc1 hc2 hc3 hc4 hc5 hc6 hc7 hc8 hc9 hc10 hc11 hc12
      cases sv
      · have HV : Hid (OK = false) := by unfold Hid; rw [HOK.out]; rfl
        go_wp2_with (refine wpList_store_row rfl 27 (.tmp 2) (.tmp 23) rfl w.heap.size zeroA rfl rfl 27 _ HQ4.out (by kernel_rfl) rfl (by simp [Value.oneCell', zeroA]) ?_)
        refine bodyPost_ret (results_dec rfl rfl (setRow_heap _ _ _ zeroA _ _ HQ4.out) rfl) rfl ⟨none, 0, 0, none, 0, 0, by rw [HDS.out, HDE.out, HV.out]; rfl, by rw [HDS.out, HV.out]; exact Row.nilRow _ _, by rw [HDS.out, HV.out]; exact Row.nilRow _ _, below_setRow HB4.out (Nat.le_refl _) _⟩
      · have HV : Hid (OK = true) := by unfold Hid; rw [HOK.out]; rfl
        obtain ⟨hc0, hc1, hc2, hc3, hc4, hc5, hc6, hc7, hc8, hc9, hc10, hc11, hc12⟩ := stm_cells (A := A1) (n := n1) (c := c1) (B := B1) (m := m1) (k := k1) (s := ⟨sa, sn, sp, st, sk, s5, s6, s7, sl, spn, s10, s11, s12⟩) HX4.out
        go_wp2_with (refine wpList_store_row rfl 27 (.tmp 2) (.tmp 24) rfl w.heap.size #[.int .i64 sa, .int .i64 sn, .string sp, .int .i64 st, .int .i64 sk, .int .i64 s5, .int .i64 s6, .int .i64 s7, .slice A1 n1 c1, .slice B1 m1 k1, .string s10, .int .i64 s11, .string s12] rfl rfl 27 _ HQ4.out (by kernel_rfl) rfl (by simp [Value.oneCell']) ?_)
        refine bodyPost_ret (results_dec rfl rfl (setRow_heap _ _ _ #[.int .i64 sa, .int .i64 sn, .string sp, .int .i64 st, .int .i64 sk, .int .i64 s5, .int .i64 s6, .int .i64 s7, .slice A1 n1 c1, .slice B1 m1 k1, .string s10, .int .i64 s11, .string s12] _ _ HQ4.out) rfl) rfl ⟨A1, n1, c1, B1, m1, k1, by rw [HDS.out, HDE.out, HV.out]; rfl, ?_, ?_, below_setRow HB4.out (Nat.le_refl _) _⟩
        · rw [HDS.out, HV.out]; exact Row.keep HL4.out fun ad hA _ _ => setRow_other _ _ _ _ (HNA.out ad hA)
        · rw [HDS.out, HV.out]; exact Row.keep HP4.out fun ad hA _ _ => setRow_other _ _ _ _ (HNB.out ad hA)
    · have g1 : (cv == 0) = false := by simpa using h0
      have HV : Hid (OK = false) := by unfold Hid; rw [HOK.out]; simp [h0]
      go_wp2_with (refine wpList_store_row rfl 27 (.tmp 2) (.tmp 23) rfl w.heap.size zeroA rfl rfl 27 _ HQ3.out (by kernel_rfl) rfl (by simp [Value.oneCell', zeroA]) ?_)
      refine bodyPost_ret (results_dec rfl rfl (setRow_heap _ _ _ zeroA _ _ HQ3.out) rfl) rfl ⟨none, 0, 0, none, 0, 0, by rw [HDS.out, HDE.out, HV.out]; rfl, by rw [HDS.out, HV.out]; exact Row.nilRow _ _, by rw [HDS.out, HV.out]; exact Row.nilRow _ _, below_setRow HB3.out (Nat.le_refl _) _⟩
end Go.Proofs.YtnokhjpileamaaaDoor
/- What was taken from bytes, written again, is those bytes: plain facts. -/
namespace Go.Proofs.YtnokhjpileamaaaDoor
open Go.RowKit
theorem numB_inj : ∀ (k : Nat) (l m : List UInt8), l.length = k → m.length = k → numB l = numB m → l = m
  | 0, l, m, h1, h2, _ => by rw [List.eq_nil_of_length_eq_zero h1, List.eq_nil_of_length_eq_zero h2]
  | k + 1, l, m, h1, h2, h => by
    have hl : l ≠ [] := fun e => by rw [e] at h1; simp at h1
    have hm : m ≠ [] := fun e => by rw [e] at h2; simp at h2
    rw [← List.dropLast_concat_getLast hl, ← List.dropLast_concat_getLast hm, numB_snoc, numB_snoc] at h
    have a1 := (l.getLast hl).toNat_lt
    have a2 := (m.getLast hm).toNat_lt
    have e1 : numB l.dropLast = numB m.dropLast := by omega
    have e2 : (l.getLast hl).toNat = (m.getLast hm).toNat := by omega
    have e3 := numB_inj k l.dropLast m.dropLast (by simp [h1]) (by simp [h2]) e1
    have e4 : l.getLast hl = m.getLast hm := UInt8.toNat_inj.1 e2
    rw [← List.dropLast_concat_getLast hl, ← List.dropLast_concat_getLast hm, e3, e4]
theorem be8_int8 (l : List UInt8) (h : l.length = 8) : be8 (int8 l) = l := by
  refine numB_inj 8 _ _ (be8_len _) h ?_
  have h1 := numB_be8 (int8 l)
  have h2 := numB_lt 8 l h
  have h3 : int8 l % 18446744073709551616 = (numB l : Int) % 18446744073709551616 := by
    unfold int8 wrap64
    omega
  omega
theorem takeI_back {us : List UInt8} (h : (takeI us).2.2 = true) : us = be8 (takeI us).1 ++ (takeI us).2.1 := by
  unfold takeI at h ⊢
  split
  · rename_i h8
    show us = be8 (int8 (us.take 8)) ++ us.drop 8
    rw [be8_int8 _ (by rw [List.length_take]; omega), List.take_append_drop]
  · rename_i h8
    rw [if_neg h8] at h; cases h
theorem takeS_back {us : List UInt8} {most : Int} (h : (takeS us most).2.2 = true) : us = textB (takeS us most).1.data.toList ++ (takeS us most).2.1 := by
  unfold takeS at h ⊢
  split
  · rename_i hc
    have h1 := hc.len; have h2 := hc.nn; have h3 := hc.fit
    rw [Nat.div_one] at h3
    show us = textB ((us.drop 8).take (cnt us).toNat) ++ us.drop (8 + (cnt us).toNat)
    unfold textB
    rw [List.length_take, List.length_drop, Nat.min_eq_left (by omega), show (((cnt us).toNat : Nat) : Int) = int8 (us.take 8) from by rw [← cnt_nat hc]; rfl, be8_int8 _ (by rw [List.length_take]; omega), List.append_assoc, ← List.drop_drop, List.take_append_drop, List.take_append_drop]
  · rename_i hc
    rw [if_neg hc] at h; cases h
theorem listB_at (us : List UInt8) : ∀ k, 8 + 8 * k ≤ us.length → listB (intsAt us k) = (us.drop 8).take (8 * k)
  | 0, _ => by simp [intsAt, listB]
  | k + 1, h => by
    rw [intsAt_succ, listB_snoc, listB_at us k (by omega)]
    have h1 : be8 (intAt us k) = ((us.drop 8).drop (8 * k)).take 8 := by
      unfold intAt
      rw [List.drop_drop]
      exact be8_int8 _ (by rw [List.length_take, List.length_drop]; omega)
    rw [h1, show 8 * (k + 1) = 8 * k + 8 by omega, List.take_add]
theorem takeL_back {us : List UInt8} {most : Int} (h : (takeL us most).2.2 = true) : us = intsB (takeL us most).1 ++ (takeL us most).2.1 := by
  unfold takeL at h ⊢
  split
  · rename_i hc
    have h1 := hc.len; have h2 := hc.nn; have h3 := hc.fit
    have h4 : 8 * (cnt us).toNat ≤ us.length - 8 := by omega
    show us = intsB (intsAt us (cnt us).toNat) ++ us.drop (8 + 8 * (cnt us).toNat)
    unfold intsB
    rw [intsAt_len, listB_at us _ (by omega), show (((cnt us).toNat : Nat) : Int) = int8 (us.take 8) from by rw [← cnt_nat hc]; rfl, be8_int8 _ (by rw [List.length_take]; omega), List.append_assoc, ← List.drop_drop, List.take_append_drop, List.take_append_drop]
  · rename_i hc
    rw [if_neg hc] at h; cases h
theorem pin_back {us : List UInt8} (h : pinOk us = true) : us = pinBs (pinAt us) ++ pinRest us := by
  unfold pinOk at h
  simp only [Bool.and_eq_true] at h
  have h1 := takeI_back h.1.1
  have h2 := takeI_back h.1.2
  have h3 := takeS_back h.2
  unfold pinBs pinAt pinRest
  simp only
  have e : listB [(takeI us).1, (takeI (takeI us).2.1).1] = be8 (takeI us).1 ++ be8 (takeI (takeI us).2.1).1 := by simp [listB]
  rw [e]
  simp only [List.append_assoc]
  rw [← h3, ← h2, ← h1]
theorem pinsL_back (us : List UInt8) : ∀ j, (pinsL j us).2.2 = true → us = pinsBs (pinsL j us).1 ++ (pinsL j us).2.1
  | 0, _ => by show us = pinsBs [] ++ us; simp [pinsBs]
  | j + 1, h => by
    have h' : ((pinsL j us).2.2 && pinOk (pinsL j us).2.1) = true := h
    simp only [Bool.and_eq_true] at h'
    have h1 := pinsL_back us j h'.1
    have h2 := pin_back h'.2
    show us = pinsBs ((pinsL j us).1 ++ [pinAt (pinsL j us).2.1]) ++ pinRest (pinsL j us).2.1
    rw [pinsBs_snoc, List.append_assoc, ← h2, ← h1]
theorem takeP_back {us : List UInt8} (h : (takeP us).2.2 = true) : us = be8 ((takeP us).1.length : Int) ++ pinsBs (takeP us).1 ++ (takeP us).2.1 := by
  have h1 := takeP_ok h
  unfold takeP at h
  simp only [Bool.and_eq_true] at h
  have h2 := takeI_back h.1.1
  have h3 := pinsL_back _ _ h.2
  show us = be8 (((pinsL (takeI us).1.toNat (takeI us).2.1).1.length : Nat) : Int) ++ pinsBs (pinsL (takeI us).1.toNat (takeI us).2.1).1 ++ (pinsL (takeI us).1.toNat (takeI us).2.1).2.1
  rw [pinsL_len, show (((takeI us).1.toNat : Nat) : Int) = (takeI us).1 by omega, List.append_assoc, ← h3, ← h2]
/-- What was read of bytes, written again, is those bytes. -/
theorem parse_back {us : List UInt8} (h : (parse us).2.2 = true) (h0 : (parse us).2.1 = []) : wholeB (parse us).1 = us := by
  obtain ⟨X0, X1, X2, X3, X4, X5, X6, X7, X8, X9, X10, X11, X12, h0_, h1_, h2_, h3_, h4_, h5_, h6_, h7_, h8_, h9_, h10_, h11_, h12_, hp⟩ := parse_parts us
  rw [hp] at h h0 ⊢
  simp only [Bool.and_eq_true] at h h0
  obtain ⟨⟨⟨⟨⟨⟨⟨⟨⟨⟨⟨⟨k0, k1⟩, k2⟩, k3⟩, k4⟩, k5⟩, k6⟩, k7⟩, k8⟩, k9⟩, k10⟩, k11⟩, k12⟩ := h
  rw [h0_] at k0; have b0 := takeI_back k0; rw [← h0_] at b0
  rw [h1_] at k1; have b1 := takeI_back k1; rw [← h1_] at b1
  rw [h2_] at k2; have b2 := takeS_back k2; rw [← h2_] at b2
  rw [h3_] at k3; have b3 := takeI_back k3; rw [← h3_] at b3
  rw [h4_] at k4; have b4 := takeI_back k4; rw [← h4_] at b4
  rw [h5_] at k5; have b5 := takeI_back k5; rw [← h5_] at b5
  rw [h6_] at k6; have b6 := takeI_back k6; rw [← h6_] at b6
  rw [h7_] at k7; have b7 := takeI_back k7; rw [← h7_] at b7
  rw [h8_] at k8; have b8 := takeL_back k8; rw [← h8_] at b8
  rw [h9_] at k9; have b9 := takeP_back k9; rw [← h9_] at b9
  rw [h10_] at k10; have b10 := takeS_back k10; rw [← h10_] at b10
  rw [h11_] at k11; have b11 := takeI_back k11; rw [← h11_] at b11
  rw [h12_] at k12; have b12 := takeS_back k12; rw [← h12_] at b12
  unfold wholeB bodyB
  simp only [listB, List.flatMap_cons, List.flatMap_nil, List.append_nil, List.append_assoc]
  rw [h0, List.append_nil] at b12
  rw [List.append_assoc] at b9
  rw [← b12, ← b11, ← b10, ← b9, ← b8, ← b7, ← b6, ← b5, ← b4, ← b3, ← b2, ← b1, ← b0]
end Go.Proofs.YtnokhjpileamaaaDoor
/- What the reference's Decode finds is what is read: plain facts. -/
namespace Go.Proofs.YtnokhjpileamaaaDoor
open Go.RowKit
theorem dec_no {us : List UInt8} (h : (parse us).2.2 = false) : decOk us = false := by
  unfold decOk readOk; rw [h]; rfl
theorem dec_big {us : List UInt8} {X0 : Int × List UInt8 × Bool} {X1 : Int × List UInt8 × Bool} {X2 : ByteArray × List UInt8 × Bool} {X3 : Int × List UInt8 × Bool} {X4 : Int × List UInt8 × Bool} {X5 : Int × List UInt8 × Bool} {X6 : Int × List UInt8 × Bool} {X7 : Int × List UInt8 × Bool} {X8 : List Int × List UInt8 × Bool} {Y : Int × List UInt8 × Bool} (h0 : X0 = takeI us) (h1 : X1 = takeI X0.2.1) (h2 : X2 = takeS X1.2.1 32) (h3 : X3 = takeI X2.2.1) (h4 : X4 = takeI X3.2.1) (h5 : X5 = takeI X4.2.1) (h6 : X6 = takeI X5.2.1) (h7 : X7 = takeI X6.2.1) (h8 : X8 = takeL X7.2.1 64) (hY : Y = takeI X8.2.1) (h : 64 < Y.1) : decOk us = false := by
  have hP : (takeP X8.2.1).2.2 = false := by
    show ((takeI X8.2.1).2.2 && btw (takeI X8.2.1).1 0 64 && _) = false
    rw [← hY, show btw Y.1 0 64 = false by simp [btw]; omega]; simp
  refine dec_no ?_
  subst h8; subst h7; subst h6; subst h5; subst h4; subst h3; subst h2; subst h1; subst h0
  unfold parse
  simp only
  rw [hP]; simp
theorem dec_spec {us : List UInt8} {X0 : Int × List UInt8 × Bool} {X1 : Int × List UInt8 × Bool} {X2 : ByteArray × List UInt8 × Bool} {X3 : Int × List UInt8 × Bool} {X4 : Int × List UInt8 × Bool} {X5 : Int × List UInt8 × Bool} {X6 : Int × List UInt8 × Bool} {X7 : Int × List UInt8 × Bool} {X8 : List Int × List UInt8 × Bool} {Y : Int × List UInt8 × Bool} {PL : List PinD × List UInt8 × Bool} {Xb : ByteArray × List UInt8 × Bool} {Xk : Int × List UInt8 × Bool} {Xd : ByteArray × List UInt8 × Bool} {j : Nat} {okF : Bool}
    (h0 : X0 = takeI us) (h1 : X1 = takeI X0.2.1) (h2 : X2 = takeS X1.2.1 32) (h3 : X3 = takeI X2.2.1) (h4 : X4 = takeI X3.2.1) (h5 : X5 = takeI X4.2.1) (h6 : X6 = takeI X5.2.1) (h7 : X7 = takeI X6.2.1) (h8 : X8 = takeL X7.2.1 64) (hY : Y = takeI X8.2.1) (hPL : PL = pinsL j Y.2.1) (hb : Xb = takeS PL.2.1 4096) (hk : Xk = takeI Xb.2.1) (hd : Xd = takeS Xk.2.1 32)
    (hF : okF = (X0.2.2 && X1.2.2 && X2.2.2 && X3.2.2 && X4.2.2 && X5.2.2 && X6.2.2 && X7.2.2 && X8.2.2 && Y.2.2 && PL.2.2 && Xb.2.2 && Xk.2.2 && Xd.2.2)) (hj : j ≤ Y.1.toNat) (h64 : j ≤ 64) (hex : j = Y.1.toNat ∨ (X0.2.2 && X1.2.2 && X2.2.2 && X3.2.2 && X4.2.2 && X5.2.2 && X6.2.2 && X7.2.2 && X8.2.2 && Y.2.2 && PL.2.2) = false) :
    (okF = false → decOk us = false) ∧ (okF = true → (Xd.2.1.length ≠ 0 → decOk us = false) ∧ (Xd.2.1.length = 0 → (checkV ⟨X0.1, X1.1, X2.1, X3.1, X4.1, X5.1, X6.1, X7.1, X8.1, PL.1, Xb.1, Xk.1, Xd.1⟩ ≠ 0 → decOk us = false) ∧ (checkV ⟨X0.1, X1.1, X2.1, X3.1, X4.1, X5.1, X6.1, X7.1, X8.1, PL.1, Xb.1, Xk.1, Xd.1⟩ = 0 → (sealedB ⟨X0.1, X1.1, X2.1, X3.1, X4.1, X5.1, X6.1, X7.1, X8.1, PL.1, Xb.1, Xk.1, Xd.1⟩ = false → decOk us = false) ∧ (sealedB ⟨X0.1, X1.1, X2.1, X3.1, X4.1, X5.1, X6.1, X7.1, X8.1, PL.1, Xb.1, Xk.1, Xd.1⟩ = true →
      (wholeB ⟨X0.1, X1.1, X2.1, X3.1, X4.1, X5.1, X6.1, X7.1, X8.1, PL.1, Xb.1, Xk.1, Xd.1⟩ = us → decOk us = true ∧ decS us = ⟨X0.1, X1.1, X2.1, X3.1, X4.1, X5.1, X6.1, X7.1, X8.1, PL.1, Xb.1, Xk.1, Xd.1⟩) ∧ (wholeB ⟨X0.1, X1.1, X2.1, X3.1, X4.1, X5.1, X6.1, X7.1, X8.1, PL.1, Xb.1, Xk.1, Xd.1⟩ ≠ us → decOk us = false))))) := by
  have hparts : ∀ T : List PinD × List UInt8 × Bool, takeP X8.2.1 = T → (parse us).2.2 = (X0.2.2 && X1.2.2 && X2.2.2 && X3.2.2 && X4.2.2 && X5.2.2 && X6.2.2 && X7.2.2 && X8.2.2 && T.2.2 && (takeS T.2.1 4096).2.2 && (takeI (takeS T.2.1 4096).2.1).2.2 && (takeS (takeI (takeS T.2.1 4096).2.1).2.1 32).2.2) ∧ (parse us).2.1 = (takeS (takeI (takeS T.2.1 4096).2.1).2.1 32).2.1 ∧
      (parse us).1 = ⟨X0.1, X1.1, X2.1, X3.1, X4.1, X5.1, X6.1, X7.1, X8.1, T.1, (takeS T.2.1 4096).1, (takeI (takeS T.2.1 4096).2.1).1, (takeS (takeI (takeS T.2.1 4096).2.1).2.1 32).1⟩ := by
    rintro T rfl
    subst h8; subst h7; subst h6; subst h5; subst h4; subst h3; subst h2; subst h1; subst h0
    exact ⟨rfl, rfl, rfl⟩
  have hTP : takeP X8.2.1 = ((pinsL Y.1.toNat Y.2.1).1, (pinsL Y.1.toNat Y.2.1).2.1, Y.2.2 && btw Y.1 0 64 && (pinsL Y.1.toNat Y.2.1).2.2) := by subst hY; rfl
  have hpp := hparts _ hTP
  simp only at hpp
  by_cases he : j = Y.1.toNat
  · subst he
    rw [← hPL, ← hb, ← hk, ← hd] at hpp
    by_cases hn : 0 ≤ Y.1
    · have hbt : btw Y.1 0 64 = true := by simp [btw]; omega
      rw [hbt] at hpp
      have hok : (parse us).2.2 = okF := by
        rw [hpp.1, hF]; simp only [Bool.and_true, Bool.and_assoc]
      refine ⟨fun h => dec_no (hok.trans h), fun h => ?_⟩
      have hp : (parse us).2.2 = true := hok.trans h
      have hro : readOk us = decide (Xd.2.1.length = 0) := by unfold readOk; rw [hp, hpp.2.1]; rfl
      refine ⟨fun h0 => by unfold decOk; rw [hro, decide_eq_false h0]; rfl, fun h0 => ?_⟩
      have hr1 : readOk us = true := by rw [hro, decide_eq_true h0]
      have hrs : readS us = ⟨X0.1, X1.1, X2.1, X3.1, X4.1, X5.1, X6.1, X7.1, X8.1, PL.1, Xb.1, Xk.1, Xd.1⟩ := by unfold readS; rw [if_pos hr1, hpp.2.2]
      have hdo : decOk us = (decide (checkV ⟨X0.1, X1.1, X2.1, X3.1, X4.1, X5.1, X6.1, X7.1, X8.1, PL.1, Xb.1, Xk.1, Xd.1⟩ = 0) && sealedB ⟨X0.1, X1.1, X2.1, X3.1, X4.1, X5.1, X6.1, X7.1, X8.1, PL.1, Xb.1, Xk.1, Xd.1⟩) := by unfold decOk; rw [hr1, hrs]; rfl
      refine ⟨fun hc => by rw [hdo, decide_eq_false hc]; rfl, fun hc => ⟨fun hs => by rw [hdo, hs]; simp, fun hs => ?_⟩⟩
      have hd1 : decOk us = true := by rw [hdo, decide_eq_true hc, hs]; rfl
      have hw : wholeB ⟨X0.1, X1.1, X2.1, X3.1, X4.1, X5.1, X6.1, X7.1, X8.1, PL.1, Xb.1, Xk.1, Xd.1⟩ = us := by
        have := parse_back hp (by rw [hpp.2.1]; exact List.eq_nil_of_length_eq_zero h0)
        rw [hpp.2.2] at this; exact this
      exact ⟨fun _ => ⟨hd1, by unfold decS; rw [if_pos hd1, hrs]⟩, fun h => absurd hw h⟩
    · have hbt : btw Y.1 0 64 = false := by simp [btw]; omega
      have hpf : (parse us).2.2 = false := by rw [hpp.1, hbt]; simp
      have hdf := dec_no hpf
      refine ⟨fun _ => hdf, fun h => ⟨fun _ => hdf, fun _ => ⟨fun _ => hdf, fun _ => ⟨fun _ => hdf, fun _ => ⟨fun hw => ?_, fun _ => hdf⟩⟩⟩⟩⟩
      exfalso
      rw [h] at hF
      have hF := hF.symm
      simp only [Bool.and_eq_true] at hF
      obtain ⟨⟨⟨⟨⟨⟨⟨⟨⟨⟨⟨⟨⟨k0, k1⟩, k2⟩, k3⟩, k4⟩, k5⟩, k6⟩, k7⟩, k8⟩, k9⟩, k10⟩, k11⟩, k12⟩, k13⟩ := hF
      have hz : Y.1.toNat = 0 := by omega
      rw [hz] at hPL
      have hl : PL.1 = [] := by rw [hPL]; rfl
      rw [h0] at k0; have b0 := takeI_back k0; rw [← h0] at b0
      rw [h1] at k1; have b1 := takeI_back k1; rw [← h1] at b1
      rw [h2] at k2; have b2 := takeS_back k2; rw [← h2] at b2
      rw [h3] at k3; have b3 := takeI_back k3; rw [← h3] at b3
      rw [h4] at k4; have b4 := takeI_back k4; rw [← h4] at b4
      rw [h5] at k5; have b5 := takeI_back k5; rw [← h5] at b5
      rw [h6] at k6; have b6 := takeI_back k6; rw [← h6] at b6
      rw [h7] at k7; have b7 := takeI_back k7; rw [← h7] at b7
      rw [h8] at k8; have b8 := takeL_back k8; rw [← h8] at b8
      rw [hY] at k9; have b9 := takeI_back k9; rw [← hY] at b9
      have hyb : -9223372036854775808 ≤ Y.1 ∧ Y.1 ≤ 9223372036854775807 := by
        rw [hY]; unfold takeI; split
        · exact int8_bd _
        · exact ⟨by show (-9223372036854775808 : Int) ≤ 0; omega, by show (0 : Int) ≤ _; omega⟩
      unfold wholeB bodyB at hw
      simp only [hl, listB, pinsBs, List.flatMap_cons, List.flatMap_nil, List.append_nil, List.append_assoc, List.length_nil] at hw
      rw [b0, b1, b2, b3, b4, b5, b6, b7, b8, b9] at hw
      have hw2 := hw
      simp only [List.append_cancel_left_eq] at hw2
      have hw3 := List.append_inj_left hw2 (by rw [be8_len, be8_len])
      have := be8_inj _ _ (by omega) (by omega) hyb.1 hyb.2 hw3
      omega
  · have hno := hex.resolve_left he
    have hoF : okF = false := by
      rw [hF]
      generalize (X0.2.2 && X1.2.2 && X2.2.2 && X3.2.2 && X4.2.2 && X5.2.2 && X6.2.2 && X7.2.2 && X8.2.2 && Y.2.2 && PL.2.2) = z at hno ⊢
      subst hno; rfl
    have hpf : (parse us).2.2 = false := by
      rw [hpp.1]
      cases hP : PL.2.2 with
      | false =>
        have hPF : (pinsL j Y.2.1).2.2 = false := by rw [← hPL]; exact hP
        have := pinsL_no Y.2.1 hPF Y.1.toNat hj
        rw [this]; simp
      | true =>
        rw [hP, Bool.and_true] at hno
        generalize (X0.2.2 && X1.2.2 && X2.2.2 && X3.2.2 && X4.2.2 && X5.2.2 && X6.2.2 && X7.2.2 && X8.2.2) = z at hno ⊢
        cases z with
        | false => rfl
        | true => rw [Bool.true_and] at hno; rw [hno]; simp
    exact ⟨fun _ => dec_no hpf, fun h => by rw [hoF] at h; cases h⟩
end Go.Proofs.YtnokhjpileamaaaDoor
/- What the reference takes from bytes lies in new memory; the walks of its reader. -/
namespace Go.Proofs.YtnokhjpileamaaaDoor
open Go.RowKit
def RTookSn (w : World) (us : List UInt8) (k : Nat) (e : Ending) (w' : World) : Prop := ∃ A m c, e = .returned (.tuple #[.string (strOf ((us.drop 8).take k)), .slice A m c, .bool true]) ∧ m = us.length - (8 + k) ∧ BRow w' A m c (us.drop (8 + k)) ∧ New w w' A ∧ Below w.heap.size w w'
set_option maxHeartbeats 1000000 in
theorem refTakeText_new (A : Option Addr) (n c : Nat) (us : List UInt8) (most : Int) (k : Nat) (w : World) (hr : BRow w A n c us) (hnm : n ≤ 900000000) (hok : CountOk us most 1) (hk : cnt us = (k : Int)) :
    Calls Tryd.prog 80 #[.slice A n c, .int .i64 most] w (RTookSn w us k) := by
  have HR := Lib.hid hr; have HL := Lib.hid hr.len; have HOK := Lib.hid hok; have HK := Lib.hid hk
  have hkn : Hid (8 ≤ n ∧ k ≤ n - 8 ∧ (k : Int) ≤ most) := by
    have h1 := hok.len; have h2 := hok.fit; have h3 := hr.len; have h4 := hok.le
    rw [hk, h3, Nat.div_one] at h2; rw [h3] at h1; rw [hk] at h4; exact ⟨h1, by omega, h4⟩
  have hn8 : 8 ≤ n := hkn.out.1
  clear hr hok hk
  go_enter Tryd.func80, Tryd.ntmps80
  go_wp2_with fail
  refine (refTakeInt_yes A n c us w HR.out hn8 hnm).mono ?_
  rintro e w1 ⟨A1, m, c1, rfl, hm, hr1, -, hb1⟩
  rw [HL.out] at hm
  have hkm : k ≤ m := by have := hkn.out; omega
  rw [HK.out]
  have g1 : (decide (most < (k : Int))) = false := decide_eq_false (by have := hkn.out.2.2; omega)
  have g2 : (decide ((m : Int) < (k : Int))) = false := decide_eq_false (by omega)
  have g3 : (decide (m < k)) = false := decide_eq_false (by omega)
  have hs1 := fun w => run_slice_from (P := Tryd.prog) (t := 28) Tryd.underlying28 u8_size (A := A1) (n := m) (c := c1) (k := k) (i := (k : Int)) rfl hkm .i64 w
  have hs2 := fun w => run_slice_to (P := Tryd.prog) (t := 28) Tryd.underlying28 u8_size (k := k) hr1 (i := (k : Int)) rfl hkm .i64 w
  have hd := hr1.drop k hkm
  have hcv : ∀ x, (convert 28 9 (.slice A1 k c1)).run Tryd.prog (fut Later w1.drew x) = .ok (.string (strOf ((us.drop 8).take k))) (fut Later w1.drew x) := fun x =>
    run_conv_row (((hr1.take k hkm).later (Later.drew w1)).later (fut_ok Later.refl _ x)) Tryd.underlying28 Tryd.underlying5 Tryd.underlying9
  generalize dropA A1 c1 k 1 = A' at hs1 hd
  obtain ⟨t, ht⟩ : ∃ t, t = strOf ((us.drop 8).take k) := ⟨_, rfl⟩
  rw [← ht] at hcv
  have HT := Lib.hid ht; clear ht
  have hm9 : m - k ≤ 900000000 := by omega
  have HM := Lib.hid hm; have HD := Lib.hid hd; have HB1 := Lib.hid hb1; clear hm hr1 hb1 hd hkm
  go_wp2_with fail
  refine wp_region_grow (by kernel_rfl) Later Later.refl (fun _ _ _ => Later.trans) [8, 9, 10] [([0, 1, 2, 3, 4, 5, 6], 7)] (by kernel_rfl) (by kernel_rfl) (by kernel_rfl) ?_
  simp only [List.map_cons, List.map_nil, pick, List.getD_cons_zero, List.getD_cons_succ]
  refine wpGrow_cons ?_
  repeat (go_big_quiet_step (fail))
  refine wpQuiet_nil ?_
  go_wp2_with fail
  refine (rest_any A' (m - k) (c1 - k) _ w1.drew (HD.out.later (Later.drew w1)) hm9).mono ?_
  rintro e w2 ⟨A2, m2, c2, rfl, hm2, hr2, hn2, hb2⟩
  have HN2 := Lib.hid hn2; clear hn2
  have HM2 := Lib.hid hm2; have HR2 := Lib.hid hr2; have HB2 := Lib.hid hb2; clear hm2 hr2 hb2
  go_wp2_with fail
  refine pieceEnd_normal ⟨HB2.out, ?_⟩
  refine wpGrow_nil ?_
  repeat (go_big_quiet_step (fail))
  refine wpQuiet_nil ?_
  go_wp2
  go_ret3
  refine ⟨A2, m2, c2, by rw [← HT.out]; rfl, by rw [HM2.out, List.drop_drop, List.length_drop], ?_, HN2.out.from HB1.out.drew.size, HB1.out.drew.trans (HB2.out.mono HB1.out.size)⟩
  have h := HR2.out
  rw [List.drop_drop] at h
  exact h
def NewI (w : World) (R : Int × List UInt8 × Bool) (e : Ending) (w' : World) : Prop := ∃ A m c, e = .returned (.tuple #[.int .i64 R.1, .slice A m c, .bool R.2.2]) ∧ BRow w' A m c R.2.1 ∧ New w w' A ∧ Below w.heap.size w w'
def NewS (w : World) (R : ByteArray × List UInt8 × Bool) (e : Ending) (w' : World) : Prop := ∃ A m c, e = .returned (.tuple #[.string R.1, .slice A m c, .bool R.2.2]) ∧ BRow w' A m c R.2.1 ∧ New w w' A ∧ Below w.heap.size w w'
section
variable (A : Option Addr) (n c : Nat) (us : List UInt8) (most : Int) (w : World)
theorem refTakeI_new (hr : BRow w A n c us) (hn : n ≤ 900000000) : Calls Tryd.prog 79 #[.slice A n c] w (NewI w (takeI us)) := by
  by_cases h : 8 ≤ us.length
  · refine (refTakeInt_yes A n c us w hr (by rw [← hr.len]; exact h) hn).mono fun e w' ⟨A', m, c', he, _, h1, hN, h2⟩ => ⟨A', m, c', ?_, ?_, hN, h2⟩
    · unfold takeI; rw [if_pos h]; exact he
    · unfold takeI; rw [if_pos h]; exact h1
  · refine (refTakeInt_no A n c w (by rw [← hr.len]; omega)).mono fun e w' ⟨he, hw⟩ => ⟨none, 0, 0, ?_, ?_, (fun _ h => by cases h), ?_⟩
    · unfold takeI; rw [if_neg h]; exact he
    · unfold takeI; rw [if_neg h]; exact Row.nilRow _ _
    · subst hw; exact Below.refl _ _
theorem refTakeS_new (hr : BRow w A n c us) (hn : n ≤ 900000000) : Calls Tryd.prog 80 #[.slice A n c, .int .i64 most] w (NewS w (takeS us most)) := by
  by_cases h : CountOk us most 1
  · refine (refTakeText_new A n c us most _ w hr hn h (cnt_nat h)).mono fun e w' ⟨A', m, c', he, _, h1, hN, h2⟩ => ⟨A', m, c', ?_, ?_, hN, h2⟩
    · unfold takeS; rw [if_pos h]; exact he
    · unfold takeS; rw [if_pos h]; exact h1
  · refine (refTakeText_no A n c us most w hr hn h).mono fun e w' ⟨he, hw⟩ => ⟨none, 0, 0, ?_, ?_, (fun _ h => by cases h), hw⟩
    · unfold takeS; rw [if_neg h]; exact he
    · unfold takeS; rw [if_neg h]; exact Row.nilRow _ _
end
/-- The reference's reader in block D, with the bytes us left, and whether all went well. -/
def RRd (w : World) (D : Nat) (us : List UInt8) (ok : Bool) : Prop := ∃ A n c, w.heap[D]? = some (.cells #[.slice A n c, .bool ok] 73 (0, 0)) ∧ BRow w A n c us
def RReads (D : Nat) (w : World) (v : Value) (rest : List UInt8) (ok : Bool) (e : Ending) (w' : World) : Prop :=
  ∃ A m c, e = .returned v ∧ w'.heap[D]? = some (.cells #[.slice A m c, .bool ok] 73 (0, 0)) ∧ BRow w' A m c rest ∧ New w w' A ∧ But D w w'
theorem RRd.lt {w : World} {D : Nat} {us : List UInt8} {ok : Bool} (h : RRd w D us ok) : D < w.heap.size := by
  obtain ⟨A, n, c, h1, _⟩ := h; exact (Array.getElem?_eq_some_iff.1 h1).1
theorem RReads.rd {D : Nat} {w w' : World} {v : Value} {rest : List UInt8} {ok : Bool} {e : Ending} (h : RReads D w v rest ok e w') : RRd w' D rest ok := by
  obtain ⟨A, m, c, _, h1, h2, _, _⟩ := h; exact ⟨A, m, c, h1, h2⟩
theorem RRd.later {w w' : World} {D : Nat} {us : List UInt8} {ok : Bool} (h : RRd w D us ok) (hb : Below w.heap.size w w') : RRd w' D us ok := by
  obtain ⟨A, n, c, h1, h2⟩ := h
  exact ⟨A, n, c, (hb.block D (Array.getElem?_eq_some_iff.1 h1).1).trans h1, h2.later hb⟩
set_option maxHeartbeats 1000000 in
theorem refRdInt (D : Nat) (us : List UInt8) (ok : Bool) (w : World) (h : RRd w D us ok) (hn : us.length ≤ 900000) :
    Calls Tryd.prog 59 #[.pointer (some ⟨D, 0, none⟩)] w (RReads D w (.int .i64 (takeI us).1) (takeI us).2.1 (ok && (takeI us).2.2)) := by
  obtain ⟨A, n, c, hR, hr⟩ := h
  have hlen := hr.len
  have HT := Lib.hid (refTakeI_new A n c us w hr (by omega))
  have hc0 : w.cell? ⟨D, 0, none⟩ = some (.slice A n c) := by rw [cell_of_row _ _ _ _ _ _ hR]; rfl
  have hlt : D < w.heap.size := (Array.getElem?_eq_some_iff.1 hR).1
  have HR := Lib.hid hR; have HL := Lib.hid hlt; clear hR hr hlen hlt
  generalize takeI us = T at HT ⊢
  obtain ⟨v, rest, k⟩ := T
  go_enter Tryd.func59, Tryd.ntmps59
  go_wp2_with fail
  refine HT.out.mono ?_
  rintro e w1 ⟨A1, m1, c1, rfl, hr1, hn1, hb⟩
  have HR1 := Lib.hid ((hb.block D HL.out).trans HR.out); have HB := Lib.hid hb; have HX := Lib.hid hr1; have HN := Lib.hid hn1; clear hb hr1 hn1 hc0
  simp only
  have hc0 : w1.cell? ⟨D, 0, none⟩ = some (.slice A n c) := by rw [cell_of_row _ _ _ _ _ _ HR1.out]; rfl
  have hc1 : w1.cell? ⟨D, 1, none⟩ = some (.bool ok) := by rw [cell_of_row _ _ _ _ _ _ HR1.out]; rfl
  have hf0 : w1.frozen? ⟨D, 0, none⟩ = false := frozen_of_row _ _ _ _ _ HR1.out
  have hf1 : w1.frozen? ⟨D, 1, none⟩ = false := frozen_of_row _ _ _ _ _ HR1.out
  cases ok
  · go_wp2
    go_ret
    exact ⟨A1, m1, c1, rfl, heap_setCell_same _ _ _ _ _ _ (heap_setCell_same _ _ _ _ _ _ HR1.out), Row.but HX.out ((But.set _ _ _).trans (But.set _ _ _)) (fun ad hA _ => by have := (HN.out ad hA).1; have := HL.out; omega), fun ad hA => ⟨(HN.out ad hA).1, by rw [World.size_setCell, World.size_setCell]; exact (HN.out ad hA).2⟩, (But.of HB.out).trans ((But.set _ _ _).trans (But.set _ _ _))⟩
  · go_wp2
    go_ret
    exact ⟨A1, m1, c1, rfl, heap_setCell_same _ _ _ _ _ _ (heap_setCell_same _ _ _ _ _ _ HR1.out), Row.but HX.out ((But.set _ _ _).trans (But.set _ _ _)) (fun ad hA _ => by have := (HN.out ad hA).1; have := HL.out; omega), fun ad hA => ⟨(HN.out ad hA).1, by rw [World.size_setCell, World.size_setCell]; exact (HN.out ad hA).2⟩, (But.of HB.out).trans ((But.set _ _ _).trans (But.set _ _ _))⟩
set_option maxHeartbeats 1000000 in
theorem refRdText (D : Nat) (us : List UInt8) (ok : Bool) (most : Int) (w : World) (h : RRd w D us ok) (hn : us.length ≤ 900000) :
    Calls Tryd.prog 60 #[.pointer (some ⟨D, 0, none⟩), .int .i64 most] w (RReads D w (.string (takeS us most).1) (takeS us most).2.1 (ok && (takeS us most).2.2)) := by
  obtain ⟨A, n, c, hR, hr⟩ := h
  have hlen := hr.len
  have HT := Lib.hid (refTakeS_new A n c us most w hr (by omega))
  have hc0 : w.cell? ⟨D, 0, none⟩ = some (.slice A n c) := by rw [cell_of_row _ _ _ _ _ _ hR]; rfl
  have hlt : D < w.heap.size := (Array.getElem?_eq_some_iff.1 hR).1
  have HR := Lib.hid hR; have HL := Lib.hid hlt; clear hR hr hlen hlt
  generalize takeS us most = T at HT ⊢
  obtain ⟨v, rest, k⟩ := T
  go_enter Tryd.func60, Tryd.ntmps60
  go_wp2_with fail
  refine HT.out.mono ?_
  rintro e w1 ⟨A1, m1, c1, rfl, hr1, hn1, hb⟩
  have HR1 := Lib.hid ((hb.block D HL.out).trans HR.out); have HB := Lib.hid hb; have HX := Lib.hid hr1; have HN := Lib.hid hn1; clear hb hr1 hn1 hc0
  simp only
  have hc0 : w1.cell? ⟨D, 0, none⟩ = some (.slice A n c) := by rw [cell_of_row _ _ _ _ _ _ HR1.out]; rfl
  have hc1 : w1.cell? ⟨D, 1, none⟩ = some (.bool ok) := by rw [cell_of_row _ _ _ _ _ _ HR1.out]; rfl
  have hf0 : w1.frozen? ⟨D, 0, none⟩ = false := frozen_of_row _ _ _ _ _ HR1.out
  have hf1 : w1.frozen? ⟨D, 1, none⟩ = false := frozen_of_row _ _ _ _ _ HR1.out
  cases ok
  · go_wp2
    go_ret
    exact ⟨A1, m1, c1, rfl, heap_setCell_same _ _ _ _ _ _ (heap_setCell_same _ _ _ _ _ _ HR1.out), Row.but HX.out ((But.set _ _ _).trans (But.set _ _ _)) (fun ad hA _ => by have := (HN.out ad hA).1; have := HL.out; omega), fun ad hA => ⟨(HN.out ad hA).1, by rw [World.size_setCell, World.size_setCell]; exact (HN.out ad hA).2⟩, (But.of HB.out).trans ((But.set _ _ _).trans (But.set _ _ _))⟩
  · go_wp2
    go_ret
    exact ⟨A1, m1, c1, rfl, heap_setCell_same _ _ _ _ _ _ (heap_setCell_same _ _ _ _ _ _ HR1.out), Row.but HX.out ((But.set _ _ _).trans (But.set _ _ _)) (fun ad hA _ => by have := (HN.out ad hA).1; have := HL.out; omega), fun ad hA => ⟨(HN.out ad hA).1, by rw [World.size_setCell, World.size_setCell]; exact (HN.out ad hA).2⟩, (But.of HB.out).trans ((But.set _ _ _).trans (But.set _ _ _))⟩
end Go.Proofs.YtnokhjpileamaaaDoor
/- The walk of the reference's Decode. -/
namespace Go.Proofs.YtnokhjpileamaaaDoor
open Go.RowKit
def notU8 : Value → Bool
  | .int .u8 _ => false
  | _ => true
/-- Bytes do not lie in a block without bytes. -/
theorem row_u8 {w : World} {p : Nat} {A : Option Addr} {n c : Nat} {us : List UInt8} {row : Array Value} {t : TypeId} {fr : Nat × Nat} (h : BRow w A n c us) (hp : w.heap[p]? = some (.cells row t fr)) (hno : row.toList.all notU8 = true) :
    ∀ ad, A = some ad → 0 < n → ad.block ≠ p := fun ad hA h0 he => by
  obtain ⟨b, off, hA', hc⟩ := Row.form h h0
  rw [hA] at hA'; injection hA' with e; subst e
  simp only at he
  subst he
  have h1 := hc 0 (by omega)
  rw [cell_of_row _ _ _ _ _ _ hp, bytesV_get _ _ (by rw [h.len]; exact h0)] at h1
  rw [List.all_eq_true] at hno
  have := hno _ (Array.mem_toList_iff.2 (Array.mem_of_getElem? h1))
  cases this
/-- How far Decode is: the result, the statement that is made, the reader. -/
structure DS (w y : World) (row : Array Value) (us : List UInt8) (ok : Bool) : Prop where
  hq : y.heap[w.heap.size]? = some (.cells zeroA 27 (0, 0))
  hp : y.heap[w.heap.size + 2]? = some (.cells row 27 (0, 0))
  rd : RRd y (w.heap.size + 1) us ok
  hb : Below w.heap.size w y
  lp : w.heap.size + 2 < y.heap.size
theorem DS.read {w y y' : World} {row : Array Value} {us rest : List UInt8} {ok ok' : Bool} {v : Value} {e : Ending} (h : DS w y row us ok) (r : RReads (w.heap.size + 1) y v rest ok' e y') : DS w y' row rest ok' := by
  obtain ⟨A, m, c, _, h1, h2, _, h4⟩ := r
  have := h.lp
  exact ⟨(h4.block _ (by omega) (by omega)).trans h.hq, (h4.block _ (by omega) (by omega)).trans h.hp, ⟨A, m, c, h1, h2⟩, h.hb.trans (h4.below (by omega) h.hb.size), Nat.lt_of_lt_of_le h.lp h4.size⟩
theorem DS.setp {w y : World} {row : Array Value} {us : List UInt8} {ok : Bool} (h : DS w y row us ok) (hno : row.toList.all notU8 = true) (o : Nat) (v : Value) : DS w (y.setCell ⟨w.heap.size + 2, o, none⟩ v) (row.setIfInBounds o v) us ok := by
  obtain ⟨A, n, c, h1, h2⟩ := h.rd
  exact ⟨(Below.heap_setCell _ _ _ _ (by show w.heap.size ≠ w.heap.size + 2; omega)).trans h.hq, heap_setCell_same _ _ _ _ _ _ h.hp,
    ⟨A, n, c, (Below.heap_setCell _ _ _ _ (by show w.heap.size + 1 ≠ w.heap.size + 2; omega)).trans h1, Row.but h2 (But.set _ _ _) (row_u8 h2 h.hp hno)⟩, h.hb.setCell (p := ⟨w.heap.size + 2, o, none⟩) (by show w.heap.size ≤ w.heap.size + 2; omega) _, by rw [World.size_setCell]; exact h.lp⟩
theorem DS.later {w y y' : World} {row : Array Value} {us : List UInt8} {ok : Bool} (h : DS w y row us ok) (hb : Below y.heap.size y y') : DS w y' row us ok := by
  have := h.lp
  exact ⟨(hb.block _ (by omega)).trans h.hq, (hb.block _ (by omega)).trans h.hp, h.rd.later hb, h.hb.trans (hb.mono h.hb.size), Nat.lt_of_lt_of_le h.lp hb.size⟩
theorem DS.setrd {w y : World} {row : Array Value} {us us' : List UInt8} {ok : Bool} {A : Option Addr} {n c : Nat} (h : DS w y row us ok) (hr : BRow y A n c us') (b : Bool) :
    DS w ((y.setCell ⟨w.heap.size + 1, 0, none⟩ (.slice A n c)).setCell ⟨w.heap.size + 1, 1, none⟩ (.bool b)) row us' b := by
  obtain ⟨A0, n0, c0, h1, h2⟩ := h.rd
  have hne : ∀ k, k ≠ w.heap.size + 1 → ((y.setCell ⟨w.heap.size + 1, 0, none⟩ (.slice A n c)).setCell ⟨w.heap.size + 1, 1, none⟩ (.bool b)).heap[k]? = y.heap[k]? := fun k hk => (Below.heap_setCell _ _ _ _ hk).trans (Below.heap_setCell _ _ _ _ hk)
  exact ⟨(hne _ (by omega)).trans h.hq, (hne _ (by omega)).trans h.hp, ⟨A, n, c, heap_setCell_same _ _ _ _ _ _ (heap_setCell_same _ _ _ _ _ _ h1), Row.keep hr fun ad hA h0 _ => hne _ (row_u8 hr h1 rfl ad hA h0)⟩,
    (h.hb.setCell (p := ⟨w.heap.size + 1, 0, none⟩) (by show w.heap.size ≤ w.heap.size + 1; omega) _).setCell (p := ⟨w.heap.size + 1, 1, none⟩) (by show w.heap.size ≤ w.heap.size + 1; omega) _, by rw [World.size_setCell, World.size_setCell]; exact h.lp⟩
theorem list_keep {w y : World} {A : Option Addr} {n c : Nat} {l : List Int} (h : IRow y A n c l) (hn : ∀ ad, A = some ad → w.heap.size + 2 < ad.block) {v1 v2 v3 : Value} :
    IRow (((y.setCell ⟨w.heap.size + 2, 8, none⟩ v1).setCell ⟨w.heap.size + 1, 0, none⟩ v2).setCell ⟨w.heap.size + 1, 1, none⟩ v3) A n c l :=
  Row.keep h fun ad hA _ _ => by
    have := hn ad hA
    exact (Below.heap_setCell _ _ _ _ (by show ad.block ≠ w.heap.size + 1; omega)).trans ((Below.heap_setCell _ _ _ _ (by show ad.block ≠ w.heap.size + 1; omega)).trans (Below.heap_setCell _ _ _ _ (by show ad.block ≠ w.heap.size + 2; omega)))
theorem own_prow {w : World} {B0 : Nat} {B : Option Addr} {j k : Nat} {l : List PinD} (h : POwn w B0 (.slice B j k) l) : PRow w B j k l := by
  obtain ⟨A, c, hv, hr⟩ := Row.of_own h
  injection hv with h1 h2 h3
  subst h1; subst h2; subst h3; exact hr
theorem DS.grown {w y y' : World} {row : Array Value} {us : List UInt8} {ok : Bool} {A : Option Addr} {n c : Nat} {v : Value} (h : DS w y row us ok) (hD : y.heap[w.heap.size + 1]? = some (.cells #[.slice A n c, .bool ok] 73 (0, 0))) (hr : BRow y A n c us)
    (hb : Below (w.heap.size + 3) y y') (hk : ∀ k, k < y.heap.size → v.ownBlock ≠ some k → y'.heap[k]? = y.heap[k]?) (ha : ∀ ad, A = some ad → v.ownBlock ≠ some ad.block) : DS w y' row us ok :=
  ⟨(hb.block _ (by omega)).trans h.hq, (hb.block _ (by omega)).trans h.hp, ⟨A, n, c, (hb.block _ (by omega)).trans hD, Row.keep hr fun ad hA _ hlt => hk _ hlt (ha ad hA)⟩, h.hb.trans (hb.mono (by omega)), Nat.lt_of_lt_of_le h.lp hb.size⟩
theorem takeI_bd (us : List UInt8) : (takeI us).1 ≤ 9223372036854775807 := by
  unfold takeI; split
  · exact (int8_bd _).2
  · show (0 : Int) ≤ _; omega
section
variable {P : Program} {ops : Array Oper} {a : Act} {o : Oper} {rest : List Oper} {Q : Exit → Act → World → Prop}
/-- append, what it leaves alone, and where the new slice lies. -/
theorem wpList_app2 (w : World) (hgd : o.guard = none) (s x : Operand) (t tx e : TypeId) (ho : o.op = .call { callee := .builtin .append, args := #[s, x], argTypes := #[t, tx] })
    (base : Nat) (ht : P.underlying t = some (.slice e)) {z : Value} {size bytes : Nat} (hi : (P.info? e).map (fun i => (i.zero, i.size, i.bytes)) = some (some z, size, bytes)) (hzs : z.cells.size = size)
    (v : Value) (n : Nat) (xs : List Value) (hown : w.ownsRow base e size v n xs) (hs : a.eval s = v) (X : Value) (m : Nat) (news : List Value) (hsrc : Src P size tx X m news w) (hx : a.eval x = X)
    (h63 : n + m ≤ maxLen) (hbytes : (n + m) * bytes ≤ 140737488355328) (hbase : base ≤ w.heap.size)
    (h : ∀ v' w', w'.ownsRow base e size v' (n + m) (xs ++ news) → Below base w w' → (∀ k, k < w.heap.size → v.ownBlock ≠ some k → w'.heap[k]? = w.heap[k]?) → (v'.ownBlock = v.ownBlock ∨ ∃ k, w.heap.size ≤ k ∧ v'.ownBlock = some k) → wpList P ops Q rest (a.put o.dst v') w') : wpList P ops Q (o :: rest) a w := by
  obtain ⟨i0, hi0, hz0, hz1, hz2⟩ := info_parts hi
  obtain ⟨v', w', hr, h2, h3, h4⟩ := run_app w base t tx o.type e i0 z size bytes ht hi0 hz0 hz1 hz2 hzs v n xs hown X m news hsrc h63 hbytes hbase
  refine wpList_plain hgd fun K hK => ?_
  unfold Oper.wp execOp
  simp only [ho, resolve, invoke, builtin, Sem.run_bind, Sem.run_pure, Result.andThen_ok, List.map_toArray, List.map_cons, List.map_nil, hs, hx, hr]
  exact hK _ _ (h v' w' h2 ((Below.refl base w).grown h3 hbase (fun k hk => (World.ownsRow.lt hown k hk).1)) (fun k hk hne => h3.block k hk (fun e => hne e.symm)) (h4.imp id fun e => ⟨_, Nat.le_refl _, e⟩))
end
theorem DS.cells {w y : World} {row : Array Value} {us : List UInt8} {ok : Bool} (h : DS w y row us ok) (i : Nat) : y.cell? ⟨w.heap.size + 2, i, none⟩ = row[i]? := cell_of_row _ _ _ _ _ _ h.hp
theorem DS.froz {w y : World} {row : Array Value} {us : List UInt8} {ok : Bool} (h : DS w y row us ok) (i : Nat) : y.frozen? ⟨w.heap.size + 2, i, none⟩ = false := frozen_of_row _ _ _ _ _ h.hp
theorem results_rdec {tmps : Array Value} {w : World} {s : Nat} {cs : Array Value} {v : Value} (h2 : tmps.getD 2 undef = .pointer (some ⟨s, 0, none⟩)) (h3 : tmps.getD 3 undef = v)
    (hs : w.heap[s]? = some (.cells cs 27 (0, 0))) (hz : cs.size = 13) :
    (results Tryd.f33 tmps).run Tryd.prog w = .ok (.tuple #[.agg cs, v]) w := by
  have hr : Tryd.f33.results = #[.cell 2 27, .tmp 3] := rfl
  have h2' : tmps[2]?.getD undef = .pointer (some ⟨s, 0, none⟩) := by simpa using h2
  have h3' : tmps[3]?.getD undef = v := by simpa using h3
  have hl := run_loadVar_row (P := Tryd.prog) w s 27 27 cs (0, 0) _ hs Tryd.underlying27 rfl (by rw [hz]; kernel_rfl)
  unfold results
  rw [hr]
  simp [h2', h3', asAddr, hl]
set_option maxRecDepth 100000 in
set_option maxHeartbeats 8000000 in
theorem refDecode_any (A : Option Addr) (n c : Nat) (us : List UInt8) (w : World) (hr : BRow w A n c us) (hn : n ≤ 900000) :
    Calls Tryd.prog 33 #[.slice A n c] w (DecR w (decS us) (decE us)) := by
  have hu : us.length ≤ 900000 := by rw [hr.len]; exact hn
  have HDS : Hid (decS us = if decOk us = true then readS us else zeroS) := Lib.hid rfl
  have HDE : Hid (decE us = if decOk us = true then 0 else 1) := Lib.hid rfl
  obtain ⟨X0, hX0⟩ : ∃ X, X = takeI us := ⟨_, rfl⟩
  obtain ⟨X1, hX1⟩ : ∃ X, X = takeI X0.2.1 := ⟨_, rfl⟩
  obtain ⟨X2, hX2⟩ : ∃ X, X = takeS X1.2.1 32 := ⟨_, rfl⟩
  obtain ⟨X3, hX3⟩ : ∃ X, X = takeI X2.2.1 := ⟨_, rfl⟩
  obtain ⟨X4, hX4⟩ : ∃ X, X = takeI X3.2.1 := ⟨_, rfl⟩
  obtain ⟨X5, hX5⟩ : ∃ X, X = takeI X4.2.1 := ⟨_, rfl⟩
  obtain ⟨X6, hX6⟩ : ∃ X, X = takeI X5.2.1 := ⟨_, rfl⟩
  obtain ⟨X7, hX7⟩ : ∃ X, X = takeI X6.2.1 := ⟨_, rfl⟩
  obtain ⟨X8, hX8⟩ : ∃ X, X = takeL X7.2.1 64 := ⟨_, rfl⟩
  obtain ⟨Y, hY⟩ : ∃ Y, Y = takeI X8.2.1 := ⟨_, rfl⟩
  have HSP : Hid (∀ (PL : List PinD × List UInt8 × Bool) (Xb : ByteArray × List UInt8 × Bool) (Xk : Int × List UInt8 × Bool) (Xd : ByteArray × List UInt8 × Bool) (j : Nat) (okF : Bool), PL = pinsL j Y.2.1 → Xb = takeS PL.2.1 4096 → Xk = takeI Xb.2.1 → Xd = takeS Xk.2.1 32 →
      okF = (X0.2.2 && X1.2.2 && X2.2.2 && X3.2.2 && X4.2.2 && X5.2.2 && X6.2.2 && X7.2.2 && X8.2.2 && Y.2.2 && PL.2.2 && Xb.2.2 && Xk.2.2 && Xd.2.2) → j ≤ Y.1.toNat → j ≤ 64 → (j = Y.1.toNat ∨ (X0.2.2 && X1.2.2 && X2.2.2 && X3.2.2 && X4.2.2 && X5.2.2 && X6.2.2 && X7.2.2 && X8.2.2 && Y.2.2 && PL.2.2) = false) → _) := Lib.hid fun PL Xb Xk Xd j okF a1 a2 a3 a4 a5 a6 a7 a8 => dec_spec hX0 hX1 hX2 hX3 hX4 hX5 hX6 hX7 hX8 hY a1 a2 a3 a4 a5 a6 a7 a8
  have hl0 : X0.2.1.length ≤ 900000 := by rw [hX0]; exact Nat.le_trans (takeI_le us) hu
  have N0 := Lib.hid (fun ok y h => refRdInt (w.heap.size + 1) us ok y h hu)
  rw [← hX0] at N0
  have hl1 : X1.2.1.length ≤ 900000 := by rw [hX1]; exact Nat.le_trans (takeI_le X0.2.1) hl0
  have N1 := Lib.hid (fun ok y h => refRdInt (w.heap.size + 1) X0.2.1 ok y h hl0)
  rw [← hX1] at N1
  have hl2 : X2.2.1.length ≤ 900000 := by rw [hX2]; exact Nat.le_trans (takeS_le X1.2.1 32) hl1
  have N2 := Lib.hid (fun ok y h => refRdText (w.heap.size + 1) X1.2.1 ok 32 y h hl1)
  rw [← hX2] at N2
  have hl3 : X3.2.1.length ≤ 900000 := by rw [hX3]; exact Nat.le_trans (takeI_le X2.2.1) hl2
  have N3 := Lib.hid (fun ok y h => refRdInt (w.heap.size + 1) X2.2.1 ok y h hl2)
  rw [← hX3] at N3
  have hl4 : X4.2.1.length ≤ 900000 := by rw [hX4]; exact Nat.le_trans (takeI_le X3.2.1) hl3
  have N4 := Lib.hid (fun ok y h => refRdInt (w.heap.size + 1) X3.2.1 ok y h hl3)
  rw [← hX4] at N4
  have hl5 : X5.2.1.length ≤ 900000 := by rw [hX5]; exact Nat.le_trans (takeI_le X4.2.1) hl4
  have N5 := Lib.hid (fun ok y h => refRdInt (w.heap.size + 1) X4.2.1 ok y h hl4)
  rw [← hX5] at N5
  have hl6 : X6.2.1.length ≤ 900000 := by rw [hX6]; exact Nat.le_trans (takeI_le X5.2.1) hl5
  have N6 := Lib.hid (fun ok y h => refRdInt (w.heap.size + 1) X5.2.1 ok y h hl5)
  rw [← hX6] at N6
  have hl7 : X7.2.1.length ≤ 900000 := by rw [hX7]; exact Nat.le_trans (takeI_le X6.2.1) hl6
  have N7 := Lib.hid (fun ok y h => refRdInt (w.heap.size + 1) X6.2.1 ok y h hl6)
  rw [← hX7] at N7
  have hl8 : X8.2.1.length ≤ 900000 := by rw [hX8]; exact Nat.le_trans (takeL_le X7.2.1 64) hl7
  have N8 := Lib.hid (fun A n c y (h : BRow y A n c X7.2.1) => refTakeInts_any A n c X7.2.1 64 y h (by have : X7.2.1.length = n := h.len; omega))
  rw [← hX8] at N8
  have hly : Y.2.1.length ≤ 900000 := by rw [hY]; exact Nat.le_trans (takeI_le _) hl8
  have NY := Lib.hid (fun ok y h => refRdInt (w.heap.size + 1) X8.2.1 ok y h hl8)
  rw [← hY] at NY
  have HBIG := Lib.hid (fun h : 64 < Y.1 => dec_big hX0 hX1 hX2 hX3 hX4 hX5 hX6 hX7 hX8 hY h)
  have hn0 : Y.1 ≤ 9223372036854775807 := by rw [hY]; exact takeI_bd _
  have hpv : (X2.1.size : Int) ≤ 32 := by rw [hX2]; exact takeS_size _ _ (by omega)
  have hll : (X8.1.length : Int) ≤ 64 := by rw [hX8]; exact takeL_size _ _ (by omega)
  have HUS := Lib.hid hr
  clear hX0 hX1 hX2 hX3 hX4 hX5 hX6 hX7 hX8 hY hl0 hl1 hl2 hl3 hl4 hl5 hl6 hl7 hl8 hr
  obtain ⟨v0, r1, k0⟩ := X0
  obtain ⟨v1, r2, k1⟩ := X1
  obtain ⟨v2, r3, k2⟩ := X2
  obtain ⟨v3, r4, k3⟩ := X3
  obtain ⟨v4, r5, k4⟩ := X4
  obtain ⟨v5, r6, k5⟩ := X5
  obtain ⟨v6, r7, k6⟩ := X6
  obtain ⟨v7, r8, k7⟩ := X7
  obtain ⟨v8, r9, k8⟩ := X8
  obtain ⟨n0, ry, ky⟩ := Y
  simp only at HSP HBIG hn0 hly hpv hll NY N0 N1 N2 N3 N4 N5 N6 N7 N8
  generalize decS us = DS0 at HDS ⊢
  generalize decE us = DE0 at HDE ⊢
  have hb1 : Below w.heap.size w (((w.alloc (.cells #[.int .i64 0, .int .i64 0, .string ⟨#[]⟩, .int .i64 0, .int .i64 0, .int .i64 0, .int .i64 0, .int .i64 0, .slice none 0 0, .slice none 0 0, .string ⟨#[]⟩, .int .i64 0, .string ⟨#[]⟩] 27)).alloc (.cells #[.slice A n c, .bool true] 73)).alloc (.cells #[.int .i64 0, .int .i64 0, .string ⟨#[]⟩, .int .i64 0, .int .i64 0, .int .i64 0, .int .i64 0, .int .i64 0, .slice none 0 0, .slice none 0 0, .string ⟨#[]⟩, .int .i64 0, .string ⟨#[]⟩] 27)) := ((one_new w _).alloc (by simp only [World.size_alloc]; omega) _).alloc (by simp only [World.size_alloc]; omega) _
  have hD : (((w.alloc (.cells #[.int .i64 0, .int .i64 0, .string ⟨#[]⟩, .int .i64 0, .int .i64 0, .int .i64 0, .int .i64 0, .int .i64 0, .slice none 0 0, .slice none 0 0, .string ⟨#[]⟩, .int .i64 0, .string ⟨#[]⟩] 27)).alloc (.cells #[.slice A n c, .bool true] 73)).alloc (.cells #[.int .i64 0, .int .i64 0, .string ⟨#[]⟩, .int .i64 0, .int .i64 0, .int .i64 0, .int .i64 0, .int .i64 0, .slice none 0 0, .slice none 0 0, .string ⟨#[]⟩, .int .i64 0, .string ⟨#[]⟩] 27)).heap[w.heap.size + 1]? = some (.cells #[.slice A n c, .bool true] 73 (0, 0)) := by
    have := heap_alloc_new (w.alloc (.cells #[.int .i64 0, .int .i64 0, .string ⟨#[]⟩, .int .i64 0, .int .i64 0, .int .i64 0, .int .i64 0, .int .i64 0, .slice none 0 0, .slice none 0 0, .string ⟨#[]⟩, .int .i64 0, .string ⟨#[]⟩] 27)) (.cells #[.slice A n c, .bool true] 73)
    rw [show (w.alloc (.cells #[.int .i64 0, .int .i64 0, .string ⟨#[]⟩, .int .i64 0, .int .i64 0, .int .i64 0, .int .i64 0, .int .i64 0, .slice none 0 0, .slice none 0 0, .string ⟨#[]⟩, .int .i64 0, .string ⟨#[]⟩] 27)).heap.size = w.heap.size + 1 by simp] at this
    exact (Below.heap_alloc _ _ _ (by simp)).trans this
  have hP : (((w.alloc (.cells #[.int .i64 0, .int .i64 0, .string ⟨#[]⟩, .int .i64 0, .int .i64 0, .int .i64 0, .int .i64 0, .int .i64 0, .slice none 0 0, .slice none 0 0, .string ⟨#[]⟩, .int .i64 0, .string ⟨#[]⟩] 27)).alloc (.cells #[.slice A n c, .bool true] 73)).alloc (.cells #[.int .i64 0, .int .i64 0, .string ⟨#[]⟩, .int .i64 0, .int .i64 0, .int .i64 0, .int .i64 0, .int .i64 0, .slice none 0 0, .slice none 0 0, .string ⟨#[]⟩, .int .i64 0, .string ⟨#[]⟩] 27)).heap[w.heap.size + 2]? = some (.cells zeroA 27 (0, 0)) := by
    have := heap_alloc_new ((w.alloc (.cells #[.int .i64 0, .int .i64 0, .string ⟨#[]⟩, .int .i64 0, .int .i64 0, .int .i64 0, .int .i64 0, .int .i64 0, .slice none 0 0, .slice none 0 0, .string ⟨#[]⟩, .int .i64 0, .string ⟨#[]⟩] 27)).alloc (.cells #[.slice A n c, .bool true] 73)) (.cells #[.int .i64 0, .int .i64 0, .string ⟨#[]⟩, .int .i64 0, .int .i64 0, .int .i64 0, .int .i64 0, .int .i64 0, .slice none 0 0, .slice none 0 0, .string ⟨#[]⟩, .int .i64 0, .string ⟨#[]⟩] 27)
    rw [show ((w.alloc (.cells #[.int .i64 0, .int .i64 0, .string ⟨#[]⟩, .int .i64 0, .int .i64 0, .int .i64 0, .int .i64 0, .int .i64 0, .slice none 0 0, .slice none 0 0, .string ⟨#[]⟩, .int .i64 0, .string ⟨#[]⟩] 27)).alloc (.cells #[.slice A n c, .bool true] 73)).heap.size = w.heap.size + 2 by simp] at this
    exact this
  have hQ : (((w.alloc (.cells #[.int .i64 0, .int .i64 0, .string ⟨#[]⟩, .int .i64 0, .int .i64 0, .int .i64 0, .int .i64 0, .int .i64 0, .slice none 0 0, .slice none 0 0, .string ⟨#[]⟩, .int .i64 0, .string ⟨#[]⟩] 27)).alloc (.cells #[.slice A n c, .bool true] 73)).alloc (.cells #[.int .i64 0, .int .i64 0, .string ⟨#[]⟩, .int .i64 0, .int .i64 0, .int .i64 0, .int .i64 0, .int .i64 0, .slice none 0 0, .slice none 0 0, .string ⟨#[]⟩, .int .i64 0, .string ⟨#[]⟩] 27)).heap[w.heap.size]? = some (.cells zeroA 27 (0, 0)) :=
    (Below.heap_alloc _ _ _ (by simp only [World.size_alloc]; omega)).trans ((Below.heap_alloc _ _ _ (by simp)).trans (heap_alloc_new w (.cells #[.int .i64 0, .int .i64 0, .string ⟨#[]⟩, .int .i64 0, .int .i64 0, .int .i64 0, .int .i64 0, .int .i64 0, .slice none 0 0, .slice none 0 0, .string ⟨#[]⟩, .int .i64 0, .string ⟨#[]⟩] 27)))
  have HD0 : Hid (DS w (((w.alloc (.cells #[.int .i64 0, .int .i64 0, .string ⟨#[]⟩, .int .i64 0, .int .i64 0, .int .i64 0, .int .i64 0, .int .i64 0, .slice none 0 0, .slice none 0 0, .string ⟨#[]⟩, .int .i64 0, .string ⟨#[]⟩] 27)).alloc (.cells #[.slice A n c, .bool true] 73)).alloc (.cells #[.int .i64 0, .int .i64 0, .string ⟨#[]⟩, .int .i64 0, .int .i64 0, .int .i64 0, .int .i64 0, .int .i64 0, .slice none 0 0, .slice none 0 0, .string ⟨#[]⟩, .int .i64 0, .string ⟨#[]⟩] 27)) #[.int .i64 0, .int .i64 0, .string ⟨#[]⟩, .int .i64 0, .int .i64 0, .int .i64 0, .int .i64 0, .int .i64 0, .slice none 0 0, .slice none 0 0, .string ⟨#[]⟩, .int .i64 0, .string ⟨#[]⟩] us true) := Lib.hid ⟨hQ, hP, ⟨A, n, c, hD, Row.later HUS.out hb1⟩, hb1, by simp⟩
  clear hb1 hD hP hQ
  go_enter Tryd.func33, Tryd.ntmps33
  go_wp2_with fail
  rw [show w.heap.size + 1 + 1 = w.heap.size + 2 from rfl]
  generalize ((w.alloc (.cells #[.int .i64 0, .int .i64 0, .string ⟨#[]⟩, .int .i64 0, .int .i64 0, .int .i64 0, .int .i64 0, .int .i64 0, .slice none 0 0, .slice none 0 0, .string ⟨#[]⟩, .int .i64 0, .string ⟨#[]⟩] 27)).alloc (.cells #[.slice A n c, .bool true] 73)).alloc (.cells #[.int .i64 0, .int .i64 0, .string ⟨#[]⟩, .int .i64 0, .int .i64 0, .int .i64 0, .int .i64 0, .int .i64 0, .slice none 0 0, .slice none 0 0, .string ⟨#[]⟩, .int .i64 0, .string ⟨#[]⟩] 27) = y0 at HD0 ⊢
  obtain ⟨o0, ho0⟩ : ∃ o : Bool, o = true := ⟨_, rfl⟩
  rw [← ho0] at HD0
  have HO0 := Lib.hid ho0; clear ho0
  refine (N0.out o0 y0 HD0.out.rd).mono ?_
  rintro e y1 hrd
  have HD1' := Lib.hid (HD0.out.read hrd)
  obtain ⟨_, _, _, rfl, -⟩ := hrd
  obtain ⟨o1, ho⟩ : ∃ o : Bool, o = (o0 && k0) := ⟨_, rfl⟩
  rw [← ho] at HD1'
  have HO1 := Lib.hid ho; clear ho
  have HD1 := HD1'; clear HD1' HD0
  go_wp2_with fail
  refine (N1.out o1 y1 HD1.out.rd).mono ?_
  rintro e y2 hrd
  have HD2' := Lib.hid (HD1.out.read hrd)
  obtain ⟨_, _, _, rfl, -⟩ := hrd
  obtain ⟨o2, ho⟩ : ∃ o : Bool, o = (o1 && k1) := ⟨_, rfl⟩
  rw [← ho] at HD2'
  have HO2 := Lib.hid ho; clear ho
  have HD2 := HD2'; clear HD2' HD1
  go_wp2_with fail
  refine (N2.out o2 y2 HD2.out.rd).mono ?_
  rintro e y3 hrd
  have HD3' := Lib.hid (HD2.out.read hrd)
  obtain ⟨_, _, _, rfl, -⟩ := hrd
  obtain ⟨o3, ho⟩ : ∃ o : Bool, o = (o2 && k2) := ⟨_, rfl⟩
  rw [← ho] at HD3'
  have HO3 := Lib.hid ho; clear ho
  have HD3 := HD3'; clear HD3' HD2
  have hc0 : y3.cell? ⟨w.heap.size + 2, 0, none⟩ = some (.int .i64 0) := by rw [HD3.out.cells]; rfl
  have hz0 : y3.frozen? ⟨w.heap.size + 2, 0, none⟩ = false := HD3.out.froz 0
  have hc1 : y3.cell? ⟨w.heap.size + 2, 1, none⟩ = some (.int .i64 0) := by rw [HD3.out.cells]; rfl
  have hz1 : y3.frozen? ⟨w.heap.size + 2, 1, none⟩ = false := HD3.out.froz 1
  have hc2 : y3.cell? ⟨w.heap.size + 2, 2, none⟩ = some (.string ⟨#[]⟩) := by rw [HD3.out.cells]; rfl
  have hz2 : y3.frozen? ⟨w.heap.size + 2, 2, none⟩ = false := HD3.out.froz 2
  go_wp2_with fail
  have HD3a : Hid (DS w (((y3.setCell ⟨w.heap.size + 2, 0, none⟩ (.int .i64 v0)).setCell ⟨w.heap.size + 2, 1, none⟩ (.int .i64 v1)).setCell ⟨w.heap.size + 2, 2, none⟩ (.string v2)) #[.int .i64 v0, .int .i64 v1, .string v2, .int .i64 0, .int .i64 0, .int .i64 0, .int .i64 0, .int .i64 0, .slice none 0 0, .slice none 0 0, .string ⟨#[]⟩, .int .i64 0, .string ⟨#[]⟩] r3 o3) := Lib.hid (((HD3.out.setp rfl 0 (.int .i64 v0)).setp rfl 1 (.int .i64 v1)).setp rfl 2 (.string v2))
  clear HD3 hc0 hz0 hc1 hz1 hc2 hz2
  generalize (((y3.setCell ⟨w.heap.size + 2, 0, none⟩ (.int .i64 v0)).setCell ⟨w.heap.size + 2, 1, none⟩ (.int .i64 v1)).setCell ⟨w.heap.size + 2, 2, none⟩ (.string v2)) = y3a at HD3a ⊢
  refine (N3.out o3 y3a HD3a.out.rd).mono ?_
  rintro e y4 hrd
  have HD4' := Lib.hid (HD3a.out.read hrd)
  obtain ⟨_, _, _, rfl, -⟩ := hrd
  obtain ⟨o4, ho⟩ : ∃ o : Bool, o = (o3 && k3) := ⟨_, rfl⟩
  rw [← ho] at HD4'
  have HO4 := Lib.hid ho; clear ho
  have HD4 := HD4'; clear HD4' HD3a
  go_wp2_with fail
  refine (N4.out o4 y4 HD4.out.rd).mono ?_
  rintro e y5 hrd
  have HD5' := Lib.hid (HD4.out.read hrd)
  obtain ⟨_, _, _, rfl, -⟩ := hrd
  obtain ⟨o5, ho⟩ : ∃ o : Bool, o = (o4 && k4) := ⟨_, rfl⟩
  rw [← ho] at HD5'
  have HO5 := Lib.hid ho; clear ho
  have HD5 := HD5'; clear HD5' HD4
  go_wp2_with fail
  refine (N5.out o5 y5 HD5.out.rd).mono ?_
  rintro e y6 hrd
  have HD6' := Lib.hid (HD5.out.read hrd)
  obtain ⟨_, _, _, rfl, -⟩ := hrd
  obtain ⟨o6, ho⟩ : ∃ o : Bool, o = (o5 && k5) := ⟨_, rfl⟩
  rw [← ho] at HD6'
  have HO6 := Lib.hid ho; clear ho
  have HD6 := HD6'; clear HD6' HD5
  go_wp2_with fail
  refine (N6.out o6 y6 HD6.out.rd).mono ?_
  rintro e y7 hrd
  have HD7' := Lib.hid (HD6.out.read hrd)
  obtain ⟨_, _, _, rfl, -⟩ := hrd
  obtain ⟨o7, ho⟩ : ∃ o : Bool, o = (o6 && k6) := ⟨_, rfl⟩
  rw [← ho] at HD7'
  have HO7 := Lib.hid ho; clear ho
  have HD7 := HD7'; clear HD7' HD6
  go_wp2_with fail
  refine (N7.out o7 y7 HD7.out.rd).mono ?_
  rintro e y8 hrd
  have HD8' := Lib.hid (HD7.out.read hrd)
  obtain ⟨_, _, _, rfl, -⟩ := hrd
  obtain ⟨o8, ho⟩ : ∃ o : Bool, o = (o7 && k7) := ⟨_, rfl⟩
  rw [← ho] at HD8'
  have HO8 := Lib.hid ho; clear ho
  have HD8 := HD8'; clear HD8' HD7
  have hc3 : y8.cell? ⟨w.heap.size + 2, 3, none⟩ = some (.int .i64 0) := by rw [HD8.out.cells]; rfl
  have hz3 : y8.frozen? ⟨w.heap.size + 2, 3, none⟩ = false := HD8.out.froz 3
  have hc4 : y8.cell? ⟨w.heap.size + 2, 4, none⟩ = some (.int .i64 0) := by rw [HD8.out.cells]; rfl
  have hz4 : y8.frozen? ⟨w.heap.size + 2, 4, none⟩ = false := HD8.out.froz 4
  have hc5 : y8.cell? ⟨w.heap.size + 2, 5, none⟩ = some (.int .i64 0) := by rw [HD8.out.cells]; rfl
  have hz5 : y8.frozen? ⟨w.heap.size + 2, 5, none⟩ = false := HD8.out.froz 5
  have hc6 : y8.cell? ⟨w.heap.size + 2, 6, none⟩ = some (.int .i64 0) := by rw [HD8.out.cells]; rfl
  have hz6 : y8.frozen? ⟨w.heap.size + 2, 6, none⟩ = false := HD8.out.froz 6
  have hc7 : y8.cell? ⟨w.heap.size + 2, 7, none⟩ = some (.int .i64 0) := by rw [HD8.out.cells]; rfl
  have hz7 : y8.frozen? ⟨w.heap.size + 2, 7, none⟩ = false := HD8.out.froz 7
  have HD8a : Hid (DS w (((((y8.setCell ⟨w.heap.size + 2, 3, none⟩ (.int .i64 v3)).setCell ⟨w.heap.size + 2, 4, none⟩ (.int .i64 v4)).setCell ⟨w.heap.size + 2, 5, none⟩ (.int .i64 v5)).setCell ⟨w.heap.size + 2, 6, none⟩ (.int .i64 v6)).setCell ⟨w.heap.size + 2, 7, none⟩ (.int .i64 v7)) #[.int .i64 v0, .int .i64 v1, .string v2, .int .i64 v3, .int .i64 v4, .int .i64 v5, .int .i64 v6, .int .i64 v7, .slice none 0 0, .slice none 0 0, .string ⟨#[]⟩, .int .i64 0, .string ⟨#[]⟩] r8 o8) := Lib.hid (((((HD8.out.setp rfl 3 (.int .i64 v3)).setp rfl 4 (.int .i64 v4)).setp rfl 5 (.int .i64 v5)).setp rfl 6 (.int .i64 v6)).setp rfl 7 (.int .i64 v7))
  obtain ⟨Ar, nr, cr, hRr, hrr⟩ := HD8a.out.rd
  have hcd : (((((y8.setCell ⟨w.heap.size + 2, 3, none⟩ (.int .i64 v3)).setCell ⟨w.heap.size + 2, 4, none⟩ (.int .i64 v4)).setCell ⟨w.heap.size + 2, 5, none⟩ (.int .i64 v5)).setCell ⟨w.heap.size + 2, 6, none⟩ (.int .i64 v6)).setCell ⟨w.heap.size + 2, 7, none⟩ (.int .i64 v7)).cell? ⟨w.heap.size + 1, 0, none⟩ = some (.slice Ar nr cr) := by rw [cell_of_row _ _ _ _ _ _ hRr]; rfl
  clear hRr
  have HRR := Lib.hid hrr; clear hrr
  go_wp2_with fail
  clear HD8 hcd hc3 hz3 hc4 hz4 hc5 hz5 hc6 hz6 hc7 hz7
  generalize (((((y8.setCell ⟨w.heap.size + 2, 3, none⟩ (.int .i64 v3)).setCell ⟨w.heap.size + 2, 4, none⟩ (.int .i64 v4)).setCell ⟨w.heap.size + 2, 5, none⟩ (.int .i64 v5)).setCell ⟨w.heap.size + 2, 6, none⟩ (.int .i64 v6)).setCell ⟨w.heap.size + 2, 7, none⟩ (.int .i64 v7)) = y8a at HD8a HRR ⊢
  refine (N8.out Ar nr cr y8a HRR.out).mono ?_
  rintro e y9 ⟨Al, nl, cl, A9, m9, c9, rfl, hil, hnl, hr9, hb9⟩
  have hln := hil.len
  have HD9 := Lib.hid (HD8a.out.later hb9)
  have HOA : Hid (o8 = (k0 && k1 && k2 && k3 && k4 && k5 && k6 && k7)) := by unfold Hid; rw [HO8.out, HO7.out, HO6.out, HO5.out, HO4.out, HO3.out, HO2.out, HO1.out, HO0.out]; simp
  have HNL : Hid (∀ ad, Al = some ad → w.heap.size + 2 < ad.block) := Lib.hid fun ad hA => Nat.lt_of_lt_of_le HD8a.out.lp (hnl ad hA).1
  have HIL := Lib.hid hil; have HB9 := Lib.hid hr9
  simp only at hln
  have hnl64 : nl ≤ 64 := by rw [← hln]; omega
  clear HO8 HO7 HO6 HO5 HO4 HO3 HO2 HO1 HO0 hil hnl hr9 hb9 hln HD8a HRR N0 N1 N2 N3 N4 N5 N6 N7 N8
  simp only
  obtain ⟨Ax, nx, cx, hRx, -⟩ := HD9.out.rd
  have hcd0 : y9.cell? ⟨w.heap.size + 1, 0, none⟩ = some (.slice Ax nx cx) := by rw [cell_of_row _ _ _ _ _ _ hRx]; rfl
  have hcd1 : y9.cell? ⟨w.heap.size + 1, 1, none⟩ = some (.bool o8) := by rw [cell_of_row _ _ _ _ _ _ hRx]; rfl
  have hzd0 : y9.frozen? ⟨w.heap.size + 1, 0, none⟩ = false := frozen_of_row _ _ _ _ _ hRx
  have hzd1 : y9.frozen? ⟨w.heap.size + 1, 1, none⟩ = false := frozen_of_row _ _ _ _ _ hRx
  clear hRx
  have hc8 : y9.cell? ⟨w.heap.size + 2, 8, none⟩ = some (.slice none 0 0) := by rw [HD9.out.cells]; rfl
  have hz8 : y9.frozen? ⟨w.heap.size + 2, 8, none⟩ = false := HD9.out.froz 8
  cases o8
  · have hdone : True := trivial
    clear hdone
    go_wp2_with fail
    have HDa : Hid (DS w (((y9.setCell ⟨w.heap.size + 2, 8, none⟩ (.slice Al nl cl)).setCell ⟨w.heap.size + 1, 0, none⟩ (.slice A9 m9 c9)).setCell ⟨w.heap.size + 1, 1, none⟩ (.bool false)) #[.int .i64 v0, .int .i64 v1, .string v2, .int .i64 v3, .int .i64 v4, .int .i64 v5, .int .i64 v6, .int .i64 v7, .slice Al nl cl, .slice none 0 0, .string ⟨#[]⟩, .int .i64 0, .string ⟨#[]⟩] r9 false) := Lib.hid ((HD9.out.setp rfl 8 (.slice Al nl cl)).setrd (Row.but HB9.out (But.set _ _ _) (row_u8 HB9.out HD9.out.hp rfl)) false)
    have HIa : Hid (IRow (((y9.setCell ⟨w.heap.size + 2, 8, none⟩ (.slice Al nl cl)).setCell ⟨w.heap.size + 1, 0, none⟩ (.slice A9 m9 c9)).setCell ⟨w.heap.size + 1, 1, none⟩ (.bool false)) Al nl cl v8) := Lib.hid (list_keep HIL.out HNL.out)
    clear HD9 HIL HB9 hc8 hz8 hcd0 hcd1 hzd0 hzd1
    generalize (((y9.setCell ⟨w.heap.size + 2, 8, none⟩ (.slice Al nl cl)).setCell ⟨w.heap.size + 1, 0, none⟩ (.slice A9 m9 c9)).setCell ⟨w.heap.size + 1, 1, none⟩ (.bool false)) = ya at HDa HIa ⊢
    obtain ⟨oa, hoa⟩ : ∃ o : Bool, o = false := ⟨_, rfl⟩
    have HOC : Hid (oa = (k0 && k1 && k2 && k3 && k4 && k5 && k6 && k7 && k8)) := by unfold Hid; rw [hoa]; rw [← HOA.out]; rfl
    rw [← hoa] at HDa
    clear hoa
    refine (NY.out oa ya HDa.out.rd).mono ?_
    rintro e yb hrd
    have HDb := Lib.hid (HDa.out.read hrd)
    obtain ⟨_, _, _, rfl, -, -, -, hbut⟩ := hrd
    have HIb := Lib.hid (but_up hbut HIa.out HNL.out (by omega)); clear hbut HDa HIa NY
    obtain ⟨Ab, nb, cb, hRb, hrb⟩ := HDb.out.rd
    have HRb := Lib.hid hRb; have HXb := Lib.hid hrb; clear hRb hrb
    go_wp2_with fail
    go_loopw [9] (fun i wr => ∃ j : Nat, j ≤ n0.toNat ∧ j ≤ 64 ∧ i = .int .i64 (n0 - j) ∧ ∃ B k okj Aj nj cj, Hid (DS w wr #[.int .i64 v0, .int .i64 v1, .string v2, .int .i64 v3, .int .i64 v4, .int .i64 v5, .int .i64 v6, .int .i64 v7, .slice Al nl cl, .slice B j k, .string ⟨#[]⟩, .int .i64 0, .string ⟨#[]⟩] (pinsL j ry).2.1 okj ∧ okj = (k0 && k1 && k2 && k3 && k4 && k5 && k6 && k7 && k8 && ky && (pinsL j ry).2.2) ∧ POwn wr (w.heap.size + 3) (.slice B j k) (pinsL j ry).1 ∧ IRow wr Al nl cl v8 ∧ (∀ ad, Al = some ad → 0 < nl → Value.ownBlock (.slice B j k) ≠ some ad.block) ∧
        wr.heap[w.heap.size + 1]? = some (.cells #[.slice Aj nj cj, .bool okj] 73 (0, 0)) ∧ BRow wr Aj nj cj (pinsL j ry).2.1 ∧ (∀ ad, Aj = some ad → Value.ownBlock (.slice B j k) ≠ some ad.block))) (fun i _ => (intOf i).toNat)
    case atStart => exact ⟨0, Nat.zero_le _, by omega, by simp, none, 0, (oa && ky), Ab, nb, cb, Lib.hid ⟨HDb.out, by rw [HOC.out]; simp [pinsL], World.ownsRow_nil _ _ _ _, HIb.out, (fun _ _ _ h => by cases h), HRb.out, HXb.out, (fun _ _ h => by cases h)⟩⟩
    case round =>
      obtain ⟨j, hjn, hj64, rfl, B, k, okj, Aj, nj, cj, HQ⟩ := hrel
      have hc9 : wr.cell? ⟨w.heap.size + 2, 9, none⟩ = some (.slice B j k) := by rw [HQ.out.1.cells]; rfl
      have hcd : wr.cell? ⟨w.heap.size + 1, 1, none⟩ = some (.bool okj) := by rw [cell_of_row _ _ _ _ _ _ HQ.out.2.2.2.2.2.1]; rfl
      by_cases hgt : 0 < n0 - (j : Int)
      · cases okj
        · have HDw := Lib.hid HQ.out.1; have HOJ := Lib.hid HQ.out.2.1; have HIR := Lib.hid HQ.out.2.2.2.1
          have HPR : Hid (PRow wr B j k (pinsL j ry).1) := Lib.hid (own_prow HQ.out.2.2.1)
          have HNB : Hid (∀ ad, B = some ad → w.heap.size + 2 < ad.block) := Lib.hid fun ad hA => by subst hA; exact (World.ownsRow.lt HQ.out.2.2.1 _ rfl).1
          obtain ⟨okj, hokj⟩ : ∃ o : Bool, o = false := ⟨_, rfl⟩
          rw [← hokj] at HDw HOJ hcd
          clear HQ HDb HIb HRb HXb
          have hlr : (pinsL j ry).2.1.length ≤ 900000 := Nat.le_trans (pinsL_le ry j) hly
          have HSPj := Lib.hid (HSP.out (pinsL j ry) (takeS (pinsL j ry).2.1 4096) (takeI (takeS (pinsL j ry).2.1 4096).2.1) (takeS (takeI (takeS (pinsL j ry).2.1 4096).2.1).2.1 32) j _ rfl rfl rfl rfl rfl hjn hj64 (.inr (by rw [← HOJ.out, hokj])))
          have NB := Lib.hid (fun ok y h => refRdText (w.heap.size + 1) (pinsL j ry).2.1 ok 4096 y h hlr)
          have hlb := Nat.le_trans (takeS_le (pinsL j ry).2.1 4096) hlr
          have hsb := takeS_size (pinsL j ry).2.1 4096 (by omega)
          have hpb := pinsL_size ry j
          have hpl := pinsL_len ry j
          clear HSP
          generalize (pinsL j ry).2.1 = rj at HSPj NB hlb hsb HDw
          generalize (pinsL j ry).2.2 = kj at HSPj HOJ
          generalize (pinsL j ry).1 = lj at HSPj HPR hpb hpl
          generalize takeS rj 4096 = Xb at HSPj NB hlb hsb
          obtain ⟨vb, rb, kb⟩ := Xb
          simp only at HSPj NB hlb hsb
          have NK := Lib.hid (fun ok y h => refRdInt (w.heap.size + 1) rb ok y h hlb)
          have hlk := Nat.le_trans (takeI_le rb) hlb
          generalize takeI rb = Xk at HSPj NK hlk
          obtain ⟨vk, rk, kk⟩ := Xk
          simp only at HSPj NK hlk
          have ND := Lib.hid (fun ok y h => refRdText (w.heap.size + 1) rk ok 32 y h hlk)
          have hsd := takeS_size rk 32 (by omega)
          generalize takeS rk 32 = Xd at HSPj ND hsd
          obtain ⟨vd, rd13, kd⟩ := Xd
          simp only at HSPj ND hsd
          go_wp2_with fail
          refine (NB.out okj wr HDw.out.rd).mono ?_
          rintro e z1 hrd
          have HDz1 := Lib.hid (HDw.out.read hrd)
          obtain ⟨_, _, _, rfl, -, -, -, hbut⟩ := hrd
          have HI1 := Lib.hid (but_up hbut HIR.out HNL.out (by omega)); have HP1 := Lib.hid (but_up hbut HPR.out HNB.out (by omega)); clear hbut HDw HIR HPR
          have hc10 : z1.cell? ⟨w.heap.size + 2, 10, none⟩ = some (.string ⟨#[]⟩) := by rw [HDz1.out.cells]; rfl
          have hz10 : z1.frozen? ⟨w.heap.size + 2, 10, none⟩ = false := HDz1.out.froz 10
          go_wp2_with fail
          have HDz2 : Hid (DS w (z1.setCell ⟨w.heap.size + 2, 10, none⟩ (.string vb)) #[.int .i64 v0, .int .i64 v1, .string v2, .int .i64 v3, .int .i64 v4, .int .i64 v5, .int .i64 v6, .int .i64 v7, .slice Al nl cl, .slice B j k, .string vb, .int .i64 0, .string ⟨#[]⟩] rb (okj && kb)) := Lib.hid (HDz1.out.setp rfl 10 (.string vb))
          have HI2 := Lib.hid (set_up HI1.out HNL.out 10 (.string vb)); have HP2 := Lib.hid (set_up HP1.out HNB.out 10 (.string vb))
          clear HDz1 HI1 HP1 hc10 hz10
          generalize z1.setCell ⟨w.heap.size + 2, 10, none⟩ (.string vb) = z2 at HDz2 HI2 HP2 ⊢
          refine (NK.out (okj && kb) z2 HDz2.out.rd).mono ?_
          rintro e z3 hrd
          have HDz3 := Lib.hid (HDz2.out.read hrd)
          obtain ⟨_, _, _, rfl, -, -, -, hbut⟩ := hrd
          have HI3 := Lib.hid (but_up hbut HI2.out HNL.out (by omega)); have HP3 := Lib.hid (but_up hbut HP2.out HNB.out (by omega)); clear hbut HDz2 HI2 HP2
          go_wp2_with fail
          refine (ND.out (okj && kb && kk) z3 HDz3.out.rd).mono ?_
          rintro e z4 hrd
          have HDz4 := Lib.hid (HDz3.out.read hrd)
          obtain ⟨_, _, _, rfl, -, -, -, hbut⟩ := hrd
          have HI4 := Lib.hid (but_up hbut HI3.out HNL.out (by omega)); have HP4 := Lib.hid (but_up hbut HP3.out HNB.out (by omega)); clear hbut HDz3 HI3 HP3
          obtain ⟨okF, hoF⟩ : ∃ o : Bool, o = (okj && kb && kk && kd) := ⟨_, rfl⟩
          have HDz5 : Hid (DS w ((z4.setCell ⟨w.heap.size + 2, 11, none⟩ (.int .i64 vk)).setCell ⟨w.heap.size + 2, 12, none⟩ (.string vd)) #[.int .i64 v0, .int .i64 v1, .string v2, .int .i64 v3, .int .i64 v4, .int .i64 v5, .int .i64 v6, .int .i64 v7, .slice Al nl cl, .slice B j k, .string vb, .int .i64 vk, .string vd] rd13 okF) := by rw [hoF]; exact Lib.hid ((HDz4.out.setp rfl 11 (.int .i64 vk)).setp rfl 12 (.string vd))
          have HI5 := Lib.hid (set_up (set_up HI4.out HNL.out 11 (.int .i64 vk)) HNL.out 12 (.string vd)); have HP5 := Lib.hid (set_up (set_up HP4.out HNB.out 11 (.int .i64 vk)) HNB.out 12 (.string vd))
          have HOF : Hid (okF = (k0 && k1 && k2 && k3 && k4 && k5 && k6 && k7 && k8 && ky && kj && kb && kk && kd)) := by unfold Hid; rw [hoF, HOJ.out]
          rw [← HOF.out] at HSPj
          clear hoF HOF HOJ
          obtain ⟨hc0, hc1, hc2, hc3, hc4, hc5, hc6, hc7, hc8, hc9', hc10, hc11, hc12⟩ := stm_cells (A := Al) (n := nl) (c := cl) (B := B) (m := j) (k := k) (s := ⟨v0, v1, v2, v3, v4, v5, v6, v7, v8, lj, vb, 0, ⟨#[]⟩⟩) HDz4.out.hp
          have hz11 : z4.frozen? ⟨w.heap.size + 2, 11, none⟩ = false := HDz4.out.froz 11
          have hz12 : z4.frozen? ⟨w.heap.size + 2, 12, none⟩ = false := HDz4.out.froz 12
          obtain ⟨Af, mf, cf, hRf, hrf⟩ := HDz5.out.rd
          have hlf : rd13.length = mf := hrf.len
          have hcf0 : ((z4.setCell ⟨w.heap.size + 2, 11, none⟩ (.int .i64 vk)).setCell ⟨w.heap.size + 2, 12, none⟩ (.string vd)).cell? ⟨w.heap.size + 1, 0, none⟩ = some (.slice Af mf cf) := by rw [cell_of_row _ _ _ _ _ _ hRf]; rfl
          have hcf1 : ((z4.setCell ⟨w.heap.size + 2, 11, none⟩ (.int .i64 vk)).setCell ⟨w.heap.size + 2, 12, none⟩ (.string vd)).cell? ⟨w.heap.size + 1, 1, none⟩ = some (.bool okF) := by rw [cell_of_row _ _ _ _ _ _ hRf]; rfl
          clear hRf hrf HDz4 HI4 HP4
          have HZ1 := Lib.hid hcf0; have HZ2 := Lib.hid hcf1
          have hsm : Small ⟨v0, v1, v2, v3, v4, v5, v6, v7, v8, lj, vb, vk, vd⟩ := ⟨by simp only; omega, by simp only; omega, by simp only; omega, by simp only; omega, by simp only; omega, by simp only; omega⟩
          have HSM := Lib.hid hsm
          have HCK := Lib.hid (refCheck_any ⟨v0, v1, v2, v3, v4, v5, v6, v7, v8, lj, vb, vk, vd⟩ Al nl cl B j k ((z4.setCell ⟨w.heap.size + 2, 11, none⟩ (.int .i64 vk)).setCell ⟨w.heap.size + 2, 12, none⟩ (.string vd)) HI5.out HP5.out (by omega) (by omega) (by simp only; omega))
          have HSL : Hid (∀ y, Below ((z4.setCell ⟨w.heap.size + 2, 11, none⟩ (.int .i64 vk)).setCell ⟨w.heap.size + 2, 12, none⟩ (.string vd)).heap.size ((z4.setCell ⟨w.heap.size + 2, 11, none⟩ (.int .i64 vk)).setCell ⟨w.heap.size + 2, 12, none⟩ (.string vd)) y → Calls Tryd.prog 32 #[stmV ⟨v0, v1, v2, v3, v4, v5, v6, v7, v8, lj, vb, vk, vd⟩ Al nl cl B j k] y (SaysL (.bool (sealedB ⟨v0, v1, v2, v3, v4, v5, v6, v7, v8, lj, vb, vk, vd⟩)) y)) := Lib.hid fun y h => refSealed_any ⟨v0, v1, v2, v3, v4, v5, v6, v7, v8, lj, vb, vk, vd⟩ Al nl cl B j k y (IRow.later HI5.out h) (PRow.later HP5.out h) HSM.out
          have HEN : Hid (∀ y, Below ((z4.setCell ⟨w.heap.size + 2, 11, none⟩ (.int .i64 vk)).setCell ⟨w.heap.size + 2, 12, none⟩ (.string vd)).heap.size ((z4.setCell ⟨w.heap.size + 2, 11, none⟩ (.int .i64 vk)).setCell ⟨w.heap.size + 2, 12, none⟩ (.string vd)) y → Calls Tryd.prog 19 #[stmV ⟨v0, v1, v2, v3, v4, v5, v6, v7, v8, lj, vb, vk, vd⟩ Al nl cl B j k] y (EncS y ⟨v0, v1, v2, v3, v4, v5, v6, v7, v8, lj, vb, vk, vd⟩)) := Lib.hid fun y h => refEncode_any ⟨v0, v1, v2, v3, v4, v5, v6, v7, v8, lj, vb, vk, vd⟩ Al nl cl B j k y (IRow.later HI5.out h) (PRow.later HP5.out h) HSM.out
          have HEB : Hid (checkV ⟨v0, v1, v2, v3, v4, v5, v6, v7, v8, lj, vb, vk, vd⟩ = 0 → sealedB ⟨v0, v1, v2, v3, v4, v5, v6, v7, v8, lj, vb, vk, vd⟩ = true → encB ⟨v0, v1, v2, v3, v4, v5, v6, v7, v8, lj, vb, vk, vd⟩ = wholeB ⟨v0, v1, v2, v3, v4, v5, v6, v7, v8, lj, vb, vk, vd⟩) := Lib.hid fun h1 h2 => by unfold encB; rw [if_pos h1, if_pos h2]
          unfold stmV at HCK HSL HEN
          simp only at HCK HSL HEN
          generalize checkV ⟨v0, v1, v2, v3, v4, v5, v6, v7, v8, lj, vb, vk, vd⟩ = cv at HSPj HCK HEB
          generalize sealedB ⟨v0, v1, v2, v3, v4, v5, v6, v7, v8, lj, vb, vk, vd⟩ = sv at HSPj HSL HEB
          generalize wholeB ⟨v0, v1, v2, v3, v4, v5, v6, v7, v8, lj, vb, vk, vd⟩ = wb at HSPj HEB
          clear hsm
          cases okF
          · have HV := Lib.hid (HSPj.out.1 rfl)
            go_wp2_with (refine wpList_store_row rfl 27 (.tmp 2) (.tmp 127) rfl w.heap.size zeroA rfl rfl 27 _ HDz5.out.hq (by kernel_rfl) rfl (by simp [Value.oneCell', zeroA]) ?_)
            refine bodyPost_ret (results_rdec rfl rfl (setRow_heap _ _ _ zeroA _ _ HDz5.out.hq) rfl) rfl ⟨none, 0, 0, none, 0, 0, by rw [HDS.out, HDE.out, HV.out]; rfl, by rw [HDS.out, HV.out]; exact Row.nilRow _ _, by rw [HDS.out, HV.out]; exact Row.nilRow _ _, below_setRow HDz5.out.hb (Nat.le_refl _) _⟩
          by_cases h0 : mf = 0
          rotate_left
          · have e0 : 0 < mf := by omega
            have HV := Lib.hid ((HSPj.out.2 rfl).1 (by rw [hlf]; exact h0))
            go_wp2_with (refine wpList_store_row rfl 27 (.tmp 2) (.tmp 127) rfl w.heap.size zeroA rfl rfl 27 _ HDz5.out.hq (by kernel_rfl) rfl (by simp [Value.oneCell', zeroA]) ?_)
            refine bodyPost_ret (results_rdec rfl rfl (setRow_heap _ _ _ zeroA _ _ HDz5.out.hq) rfl) rfl ⟨none, 0, 0, none, 0, 0, by rw [HDS.out, HDE.out, HV.out]; rfl, by rw [HDS.out, HV.out]; exact Row.nilRow _ _, by rw [HDS.out, HV.out]; exact Row.nilRow _ _, below_setRow HDz5.out.hb (Nat.le_refl _) _⟩
          have HSP2 := Lib.hid ((HSPj.out.2 rfl).2 (by rw [hlf]; exact h0))
          clear HSPj
          go_wp2_with fail
          refine HCK.out.mono ?_
          clear hc0 hc1 hc2 hc3 hc4 hc5 hc6 hc7 hc8 hc9' hc10 hc11 hc12 hz11 hz12
          generalize ((z4.setCell ⟨w.heap.size + 2, 11, none⟩ (.int .i64 vk)).setCell ⟨w.heap.size + 2, 12, none⟩ (.string vd)) = z5 at HDz5 HI5 HP5 HSL HEN HZ1 HZ2 ⊢
          rintro e z6 ⟨rfl, hb⟩
          have HD6 := Lib.hid (HDz5.out.later hb); have HI6 := Lib.hid (IRow.later HI5.out hb); have HP6 := Lib.hid (PRow.later HP5.out hb); have HN6 := Lib.hid hb
          clear hb HI5 HP5 HCK HZ1 HZ2
          by_cases hc0 : cv = 0
          rotate_left
          · have g1 : (cv == 0) = false := by simpa using hc0
            have HV := Lib.hid (HSP2.out.1 hc0)
            go_wp2_with (refine wpList_store_row rfl 27 (.tmp 2) (.tmp 127) rfl w.heap.size zeroA rfl rfl 27 _ HD6.out.hq (by kernel_rfl) rfl (by simp [Value.oneCell', zeroA]) ?_)
            refine bodyPost_ret (results_rdec rfl rfl (setRow_heap _ _ _ zeroA _ _ HD6.out.hq) rfl) rfl ⟨none, 0, 0, none, 0, 0, by rw [HDS.out, HDE.out, HV.out]; rfl, by rw [HDS.out, HV.out]; exact Row.nilRow _ _, by rw [HDS.out, HV.out]; exact Row.nilRow _ _, below_setRow HD6.out.hb (Nat.le_refl _) _⟩
          subst hc0
          have HSP3 := Lib.hid (HSP2.out.2 rfl); clear HSP2
          obtain ⟨hc0, hc1, hc2, hc3, hc4, hc5, hc6, hc7, hc8, hc9, hc10, hc11, hc12⟩ := stm_cells (A := Al) (n := nl) (c := cl) (B := B) (m := j) (k := k) (s := ⟨v0, v1, v2, v3, v4, v5, v6, v7, v8, lj, vb, vk, vd⟩) HD6.out.hp
          go_wp2_with fail
          refine (HSL.out z6 HN6.out).mono ?_
          rintro e z7 ⟨rfl, hb⟩
          have HD7 := Lib.hid (HD6.out.later hb); have HI7 := Lib.hid (IRow.later HI6.out hb); have HP7 := Lib.hid (PRow.later HP6.out hb); have HN7 := Lib.hid (HN6.out.trans (hb.mono HN6.out.size))
          clear hb HI6 HP6 HSL HN6 HD6 hc0 hc1 hc2 hc3 hc4 hc5 hc6 hc7 hc8 hc9 hc10 hc11 hc12
          cases sv
          · have HV := Lib.hid (HSP3.out.1 rfl)
            go_wp2_with (refine wpList_store_row rfl 27 (.tmp 2) (.tmp 127) rfl w.heap.size zeroA rfl rfl 27 _ HD7.out.hq (by kernel_rfl) rfl (by simp [Value.oneCell', zeroA]) ?_)
            refine bodyPost_ret (results_rdec rfl rfl (setRow_heap _ _ _ zeroA _ _ HD7.out.hq) rfl) rfl ⟨none, 0, 0, none, 0, 0, by rw [HDS.out, HDE.out, HV.out]; rfl, by rw [HDS.out, HV.out]; exact Row.nilRow _ _, by rw [HDS.out, HV.out]; exact Row.nilRow _ _, below_setRow HD7.out.hb (Nat.le_refl _) _⟩
          have HSP4 := Lib.hid (HSP3.out.2 rfl); clear HSP3
          obtain ⟨hc0, hc1, hc2, hc3, hc4, hc5, hc6, hc7, hc8, hc9, hc10, hc11, hc12⟩ := stm_cells (A := Al) (n := nl) (c := cl) (B := B) (m := j) (k := k) (s := ⟨v0, v1, v2, v3, v4, v5, v6, v7, v8, lj, vb, vk, vd⟩) HD7.out.hp
          go_wp2_with fail
          refine (HEN.out z7 HN7.out).mono ?_
          rintro e z8 ⟨A8, m8, c8, rfl, hr8, hb⟩
          have HD8 := Lib.hid (HD7.out.later hb); have HI8 := Lib.hid (IRow.later HI7.out hb); have HP8 := Lib.hid (PRow.later HP7.out hb)
          rw [HEB.out (by first | rfl | trivial) (by first | rfl | trivial)] at hr8
          obtain ⟨t1, ht1⟩ : ∃ t, t = strOf wb := ⟨_, rfl⟩
          obtain ⟨t2, ht2⟩ : ∃ t, t = strOf us := ⟨_, rfl⟩
          have hcv1 : (convert 28 9 (.slice A8 m8 c8)).run Tryd.prog z8 = .ok (.string t1) z8 := by rw [ht1]; exact run_conv_row hr8 Tryd.underlying28 Tryd.underlying5 Tryd.underlying9
          have hcv2 : (convert 28 9 (.slice A n c)).run Tryd.prog z8 = .ok (.string t2) z8 := by rw [ht2]; exact run_conv_row (Row.later HUS.out HD8.out.hb) Tryd.underlying28 Tryd.underlying5 Tryd.underlying9
          clear hb hr8 HI7 HP7 HEN HN7 HD7 hc0 hc1 hc2 hc3 hc4 hc5 hc6 hc7 hc8 hc9 hc10 hc11 hc12 HEB
          by_cases hw : wb = us
          · have hd := HSP4.out.1 hw
            have HV := Lib.hid hd.1; have HVS := Lib.hid hd.2
            have ht : t1 = t2 := by rw [ht1, ht2, hw]
            have hl : t1.toList = t2.toList := by rw [ht]
            have hl2 : (t1.toList != t2.toList) = false := by rw [hl]; simp
            obtain ⟨hc0, hc1, hc2, hc3, hc4, hc5, hc6, hc7, hc8, hc9, hc10, hc11, hc12⟩ := stm_cells (A := Al) (n := nl) (c := cl) (B := B) (m := j) (k := k) (s := ⟨v0, v1, v2, v3, v4, v5, v6, v7, v8, lj, vb, vk, vd⟩) HD8.out.hp
            clear ht1 ht2 hd ht
            go_wp2_with (refine wpList_store_row rfl 27 (.tmp 2) (.tmp 139) rfl w.heap.size #[.int .i64 v0, .int .i64 v1, .string v2, .int .i64 v3, .int .i64 v4, .int .i64 v5, .int .i64 v6, .int .i64 v7, .slice Al nl cl, .slice B j k, .string vb, .int .i64 vk, .string vd] rfl rfl 27 _ HD8.out.hq (by kernel_rfl) rfl (by simp [Value.oneCell']) ?_)
            have hds : DS0 = ⟨v0, v1, v2, v3, v4, v5, v6, v7, v8, lj, vb, vk, vd⟩ := by rw [HDS.out, HV.out, if_pos rfl]; have := HVS.out; unfold decS at this; rw [HV.out, if_pos rfl] at this; exact this
            refine bodyPost_ret (results_rdec rfl rfl (setRow_heap _ _ _ #[.int .i64 v0, .int .i64 v1, .string v2, .int .i64 v3, .int .i64 v4, .int .i64 v5, .int .i64 v6, .int .i64 v7, .slice Al nl cl, .slice B j k, .string vb, .int .i64 vk, .string vd] _ _ HD8.out.hq) rfl) rfl ⟨Al, nl, cl, B, j, k, by rw [hds, HDE.out, HV.out]; rfl, ?_, ?_, below_setRow HD8.out.hb (Nat.le_refl _) _⟩
            · rw [hds]; exact Row.keep HI8.out fun ad hA _ _ => setRow_other _ _ _ _ (by have := HNL.out ad hA; omega)
            · rw [hds]; exact Row.keep HP8.out fun ad hA _ _ => setRow_other _ _ _ _ (by have := HNB.out ad hA; omega)
          · have HV := Lib.hid (HSP4.out.2 hw)
            have hl : ¬ t1.toList = t2.toList := fun h => hw (strOf_inj (by rw [← ht1, ← ht2]; exact (toList_iff _ _).1 h))
            have hl2 : (t1.toList == t2.toList) = false := by simpa using hl
            clear ht1 ht2 hw
            go_wp2_with (refine wpList_store_row rfl 27 (.tmp 2) (.tmp 138) rfl w.heap.size zeroA rfl rfl 27 _ HD8.out.hq (by kernel_rfl) rfl (by simp [Value.oneCell', zeroA]) ?_)
            refine bodyPost_ret (results_rdec rfl rfl (setRow_heap _ _ _ zeroA _ _ HD8.out.hq) rfl) rfl ⟨none, 0, 0, none, 0, 0, by rw [HDS.out, HDE.out, HV.out]; rfl, by rw [HDS.out, HV.out]; exact Row.nilRow _ _, by rw [HDS.out, HV.out]; exact Row.nilRow _ _, below_setRow HD8.out.hb (Nat.le_refl _) _⟩
        · have HQDS := Lib.hid HQ.out.1; have HOJ := Lib.hid HQ.out.2.1; have HPO := Lib.hid HQ.out.2.2.1; have HIR := Lib.hid HQ.out.2.2.2.1; have HAL := Lib.hid HQ.out.2.2.2.2.1
          clear HQ HDb HIb HRb HXb
          by_cases h64 : 64 ≤ j
          · have HV := Lib.hid (HBIG.out (by omega))
            go_wp2_with (refine wpList_store_row rfl 27 (.tmp 2) (.tmp 81) rfl w.heap.size zeroA rfl rfl 27 _ HQDS.out.hq (by kernel_rfl) rfl (by simp [Value.oneCell', zeroA]) ?_)
            refine bodyPost_ret (results_rdec rfl rfl (setRow_heap _ _ _ zeroA _ _ HQDS.out.hq) rfl) rfl ⟨none, 0, 0, none, 0, 0, by rw [HDS.out, HDE.out, HV.out]; rfl, by rw [HDS.out, HV.out]; exact Row.nilRow _ _, by rw [HDS.out, HV.out]; exact Row.nilRow _ _, below_setRow HQDS.out.hb (Nat.le_refl _) _⟩
          have hl0 : (pinsL j ry).2.1.length ≤ 900000 := Nat.le_trans (pinsL_le ry j) hly
          have HSS : Hid (pinsL (j + 1) ry = ((pinsL j ry).1 ++ [pinAt (pinsL j ry).2.1], pinRest (pinsL j ry).2.1, (pinsL j ry).2.2 && pinOk (pinsL j ry).2.1)) := Lib.hid rfl
          have HPK : Hid (pinOk (pinsL j ry).2.1 = ((takeI (pinsL j ry).2.1).2.2 && (takeI (takeI (pinsL j ry).2.1).2.1).2.2 && (takeS (takeI (takeI (pinsL j ry).2.1).2.1).2.1 32).2.2)) := Lib.hid rfl
          have HPA : Hid (pinAt (pinsL j ry).2.1 = ⟨(takeI (pinsL j ry).2.1).1, (takeI (takeI (pinsL j ry).2.1).2.1).1, (takeS (takeI (takeI (pinsL j ry).2.1).2.1).2.1 32).1⟩) := Lib.hid rfl
          have HPT : Hid (pinRest (pinsL j ry).2.1 = (takeS (takeI (takeI (pinsL j ry).2.1).2.1).2.1 32).2.1) := Lib.hid rfl
          have HLN := Lib.hid (pinsL_len ry j)
          generalize (pinsL j ry).2.1 = x0 at hl0 HSS HPK HPA HPT HQDS
          generalize (pinsL j ry).1 = l0 at HSS HPO HLN
          have hx1 := Nat.le_trans (takeI_le x0) hl0
          have N0 := Lib.hid (fun ok y h => refRdInt (w.heap.size + 1) x0 ok y h hl0)
          generalize takeI x0 = X0 at hx1 HPK HPA HPT N0
          obtain ⟨a0, x1, q0⟩ := X0
          simp only at hx1 HPK HPA HPT N0
          have hx2 := Nat.le_trans (takeI_le x1) hx1
          have N1 := Lib.hid (fun ok y h => refRdInt (w.heap.size + 1) x1 ok y h hx1)
          generalize takeI x1 = X1 at hx2 HPK HPA HPT N1
          obtain ⟨a1, x2, q1⟩ := X1
          simp only at hx2 HPK HPA HPT N1
          have N2 := Lib.hid (fun ok y h => refRdText (w.heap.size + 1) x2 ok 32 y h hx2)
          generalize takeS x2 32 = X2 at HPK HPA HPT N2
          obtain ⟨a2, x3, q2⟩ := X2
          simp only at HPK HPA HPT N2
          have HOB : Hid (∀ k', Value.ownBlock (.slice B j k) = some k' → w.heap.size + 3 ≤ k' ∧ k' < wr.heap.size) := Lib.hid fun k' hk => World.ownsRow.lt HPO.out k' hk
          go_wp2_with fail
          refine (N0.out true wr HQDS.out.rd).mono ?_
          rintro e y1 hrd
          have HD1 := Lib.hid (HQDS.out.read hrd)
          obtain ⟨_, _, _, rfl, -, -, -, hbut⟩ := hrd
          have HI1 := Lib.hid (but_up hbut HIR.out HNL.out (by omega)); have HP1 : Hid (POwn y1 (w.heap.size + 3) (.slice B j k) l0) := Lib.hid (own_but HPO.out hbut (by omega)); have HZ1 := Lib.hid hbut.size
          clear hbut hc9 hcd HQDS HIR HPO
          go_wp2_with fail
          refine (N1.out (true && q0) y1 HD1.out.rd).mono ?_
          rintro e y2 hrd
          have HD2 := Lib.hid (HD1.out.read hrd)
          obtain ⟨_, _, _, rfl, -, -, -, hbut⟩ := hrd
          have HI2 := Lib.hid (but_up hbut HI1.out HNL.out (by omega)); have HP2 : Hid (POwn y2 (w.heap.size + 3) (.slice B j k) l0) := Lib.hid (own_but HP1.out hbut (by omega)); have HZ2 := Lib.hid (Nat.le_trans HZ1.out hbut.size)
          clear hbut HD1 HI1 HP1
          go_wp2_with fail
          refine (N2.out (true && q0 && q1) y2 HD2.out.rd).mono ?_
          rintro e y3 hrd
          have HD3 := Lib.hid (HD2.out.read hrd)
          obtain ⟨A3, m3, c3, rfl, hD3, hr3, hn3, hbut⟩ := hrd
          have HI3 := Lib.hid (but_up hbut HI2.out HNL.out (by omega)); have HP3 : Hid (POwn y3 (w.heap.size + 3) (.slice B j k) l0) := Lib.hid (own_but HP2.out hbut (by omega)); have HZ3 := Lib.hid (Nat.le_trans HZ2.out hbut.size)
          have HA3 : Hid (∀ ad, A3 = some ad → Value.ownBlock (.slice B j k) ≠ some ad.block) := Lib.hid fun ad hA he => by have h1 := (HOB.out _ he).2; have h2 := (hn3 ad hA).1; have h3 := HZ2.out; omega
          have HA3G : Hid (∀ ad, A3 = some ad → w.heap.size + 2 < ad.block) := Lib.hid fun ad hA => Nat.lt_of_lt_of_le HD2.out.lp (hn3 ad hA).1
          have HA3L : Hid (∀ ad, A3 = some ad → ad.block < y3.heap.size) := Lib.hid fun ad hA => (hn3 ad hA).2
          have HDR := Lib.hid hD3; have HBR := Lib.hid hr3
          clear hbut hD3 hr3 hn3 HD2 HI2 HP2
          have hlj : l0.length = j := HLN.out
          have hb2 : Below y3.heap.size y3 ((y3.alloc (.cells #[.int .i64 a0, .int .i64 a1, .string a2] 44)).alloc (.cells #[.int .i64 a0, .int .i64 a1, .string a2] 44)) := (one_new y3 _).alloc (by simp) _
          have hrx : Row ((y3.alloc (.cells #[.int .i64 a0, .int .i64 a1, .string a2] 44)).alloc (.cells #[.int .i64 a0, .int .i64 a1, .string a2] 44)) (some ⟨(y3.alloc (.cells #[.int .i64 a0, .int .i64 a1, .string a2] 44)).heap.size, 0, none⟩) 1 1 3 (pinC ⟨a0, a1, a2⟩) := Row.of_block (cs := #[.int .i64 a0, .int .i64 a1, .string a2]) (heap_alloc_new _ _) rfl
          rw [World.size_alloc] at hrx
          have HRX := Lib.hid hrx
          have HPX : Hid (POwn ((y3.alloc (.cells #[.int .i64 a0, .int .i64 a1, .string a2] 44)).alloc (.cells #[.int .i64 a0, .int .i64 a1, .string a2] 44)) (w.heap.size + 3) (.slice B j k) l0) := Lib.hid (World.ownsRow.alloc (World.ownsRow.alloc HP3.out _) _)
          have HDX := Lib.hid (HD3.out.later hb2); have HIX := Lib.hid (HI3.out.later hb2)
          have HDRX := Lib.hid ((hb2.block _ (by have := HD3.out.lp; omega)).trans HDR.out); have HBRX := Lib.hid (BRow.later HBR.out hb2)
          have HSX : Hid (((y3.alloc (.cells #[.int .i64 a0, .int .i64 a1, .string a2] 44)).alloc (.cells #[.int .i64 a0, .int .i64 a1, .string a2] 44)).heap.size = y3.heap.size + 2) := Lib.hid (by simp)
          have hc9 : (y3.alloc (.cells #[.int .i64 a0, .int .i64 a1, .string a2] 44)).cell? ⟨w.heap.size + 2, 9, none⟩ = some (.slice B j k) := by rw [(HD3.out.later (one_new y3 (.cells #[.int .i64 a0, .int .i64 a1, .string a2] 44))).cells]; rfl
          have HL3 : Hid (w.heap.size + 2 < y3.heap.size) := Lib.hid HD3.out.lp
          clear hb2 hrx HD3 HI3 HP3 HDR HBR
          go_wp2_with (at_builtin; go_must (refine wpList_app2 _ rfl (.tmp 90) (.tmp 92) 23 23 44 rfl (w.heap.size + 3) Tryd.underlying23 pin_inf rfl (.slice B j k) _ _ HPX.out rfl _ 1 (pinC ⟨a0, a1, a2⟩) (Row.src HRX.out Tryd.underlying23 (pinsC_one' _)) rfl (by unfold maxLen; omega) (by omega) (by rw [HSX.out]; have := HL3.out; omega) ?_); intro v4 w4 ho4 hb4 hk4 hf4; obtain ⟨B', k', hv4, hrow4⟩ := Row.of_own ho4; subst hv4; rw [hlj] at ho4 hf4 ⊢; have HD4 := Lib.hid (HDX.out.grown HDRX.out HBRX.out hb4 hk4 HA3.out); have HO4 := Lib.hid ho4; have HK4 := Lib.hid hk4; have HF4 := Lib.hid hf4; have HB4 := Lib.hid hb4; have hc9 : w4.cell? ⟨w.heap.size + 2, 9, none⟩ = some (.slice B j k) := (by rw [HD4.out.cells]; rfl); have hz9 : w4.frozen? ⟨w.heap.size + 2, 9, none⟩ = false := HD4.out.froz 9; clear ho4 hb4 hk4 hf4 hrow4)
          have hss := HSX.out
          have hl3 := HL3.out
          refine ⟨⟨j + 1, by omega, by omega, by go_num, B', k', (true && q0 && q1 && q2), A3, m3, c3, Lib.hid ⟨?_, ?_, ?_, ?_, ?_, ?_, ?_, ?_⟩⟩, by simp [intOf]; omega⟩
          · rw [HSS.out, HPT.out]; exact HD4.out.setp rfl 9 (.slice B' (j + 1) k')
          · rw [HSS.out, HPK.out]; have h := HOJ.out; simp only [← Bool.and_assoc]; rw [← h]
          · rw [HSS.out, HPA.out]; unfold POwn; rw [pinsC_app, List.length_append, pinsC_single, hlj]
            exact own_set HO4.out (fun he => by have := (World.ownsRow.lt HO4.out _ he).1; omega) 9 _
          · exact Row.keep HIX.out fun ad hA h0 hlt => (Below.heap_setCell _ _ _ _ (by have := HNL.out ad hA; show ad.block ≠ w.heap.size + 2; omega)).trans (HK4.out _ hlt (HAL.out ad hA h0))
          · intro ad hA h0 he
            rcases HF4.out with h | ⟨g, hg, h⟩
            · exact HAL.out ad hA h0 (h.symm.trans he)
            · rw [h] at he; injection he with he
              have := Row.lt HIX.out (by omega) ad hA h0
              omega
          · exact (Below.heap_setCell _ _ _ _ (by show w.heap.size + 1 ≠ w.heap.size + 2; omega)).trans ((HB4.out.block _ (by omega)).trans HDRX.out)
          · rw [HSS.out, HPT.out]
            exact Row.keep HBRX.out fun ad hA _ hlt => (Below.heap_setCell _ _ _ _ (by have := HA3G.out ad hA; show ad.block ≠ w.heap.size + 2; omega)).trans (HK4.out _ hlt (HA3.out ad hA))
          · intro ad hA he
            rcases HF4.out with h | ⟨g, hg, h⟩
            · exact HA3.out ad hA (h.symm.trans he)
            · rw [h] at he; injection he with he
              have := HA3L.out ad hA
              omega
      · have HDw := Lib.hid HQ.out.1; have HOJ := Lib.hid HQ.out.2.1; have HIR := Lib.hid HQ.out.2.2.2.1
        have HPR : Hid (PRow wr B j k (pinsL j ry).1) := Lib.hid (own_prow HQ.out.2.2.1)
        have HNB : Hid (∀ ad, B = some ad → w.heap.size + 2 < ad.block) := Lib.hid fun ad hA => by subst hA; exact (World.ownsRow.lt HQ.out.2.2.1 _ rfl).1
        clear HQ HDb HIb HRb HXb
        have hlr : (pinsL j ry).2.1.length ≤ 900000 := Nat.le_trans (pinsL_le ry j) hly
        have HSPj := Lib.hid (HSP.out (pinsL j ry) (takeS (pinsL j ry).2.1 4096) (takeI (takeS (pinsL j ry).2.1 4096).2.1) (takeS (takeI (takeS (pinsL j ry).2.1 4096).2.1).2.1 32) j _ rfl rfl rfl rfl rfl hjn hj64 (.inl (by omega)))
        have NB := Lib.hid (fun ok y h => refRdText (w.heap.size + 1) (pinsL j ry).2.1 ok 4096 y h hlr)
        have hlb := Nat.le_trans (takeS_le (pinsL j ry).2.1 4096) hlr
        have hsb := takeS_size (pinsL j ry).2.1 4096 (by omega)
        have hpb := pinsL_size ry j
        have hpl := pinsL_len ry j
        clear HSP
        generalize (pinsL j ry).2.1 = rj at HSPj NB hlb hsb HDw
        generalize (pinsL j ry).2.2 = kj at HSPj HOJ
        generalize (pinsL j ry).1 = lj at HSPj HPR hpb hpl
        generalize takeS rj 4096 = Xb at HSPj NB hlb hsb
        obtain ⟨vb, rb, kb⟩ := Xb
        simp only at HSPj NB hlb hsb
        have NK := Lib.hid (fun ok y h => refRdInt (w.heap.size + 1) rb ok y h hlb)
        have hlk := Nat.le_trans (takeI_le rb) hlb
        generalize takeI rb = Xk at HSPj NK hlk
        obtain ⟨vk, rk, kk⟩ := Xk
        simp only at HSPj NK hlk
        have ND := Lib.hid (fun ok y h => refRdText (w.heap.size + 1) rk ok 32 y h hlk)
        have hsd := takeS_size rk 32 (by omega)
        generalize takeS rk 32 = Xd at HSPj ND hsd
        obtain ⟨vd, rd13, kd⟩ := Xd
        simp only at HSPj ND hsd
        go_wp2_with fail
        refine (NB.out okj wr HDw.out.rd).mono ?_
        rintro e z1 hrd
        have HDz1 := Lib.hid (HDw.out.read hrd)
        obtain ⟨_, _, _, rfl, -, -, -, hbut⟩ := hrd
        have HI1 := Lib.hid (but_up hbut HIR.out HNL.out (by omega)); have HP1 := Lib.hid (but_up hbut HPR.out HNB.out (by omega)); clear hbut HDw HIR HPR
        have hc10 : z1.cell? ⟨w.heap.size + 2, 10, none⟩ = some (.string ⟨#[]⟩) := by rw [HDz1.out.cells]; rfl
        have hz10 : z1.frozen? ⟨w.heap.size + 2, 10, none⟩ = false := HDz1.out.froz 10
        go_wp2_with fail
        have HDz2 : Hid (DS w (z1.setCell ⟨w.heap.size + 2, 10, none⟩ (.string vb)) #[.int .i64 v0, .int .i64 v1, .string v2, .int .i64 v3, .int .i64 v4, .int .i64 v5, .int .i64 v6, .int .i64 v7, .slice Al nl cl, .slice B j k, .string vb, .int .i64 0, .string ⟨#[]⟩] rb (okj && kb)) := Lib.hid (HDz1.out.setp rfl 10 (.string vb))
        have HI2 := Lib.hid (set_up HI1.out HNL.out 10 (.string vb)); have HP2 := Lib.hid (set_up HP1.out HNB.out 10 (.string vb))
        clear HDz1 HI1 HP1 hc10 hz10
        generalize z1.setCell ⟨w.heap.size + 2, 10, none⟩ (.string vb) = z2 at HDz2 HI2 HP2 ⊢
        refine (NK.out (okj && kb) z2 HDz2.out.rd).mono ?_
        rintro e z3 hrd
        have HDz3 := Lib.hid (HDz2.out.read hrd)
        obtain ⟨_, _, _, rfl, -, -, -, hbut⟩ := hrd
        have HI3 := Lib.hid (but_up hbut HI2.out HNL.out (by omega)); have HP3 := Lib.hid (but_up hbut HP2.out HNB.out (by omega)); clear hbut HDz2 HI2 HP2
        go_wp2_with fail
        refine (ND.out (okj && kb && kk) z3 HDz3.out.rd).mono ?_
        rintro e z4 hrd
        have HDz4 := Lib.hid (HDz3.out.read hrd)
        obtain ⟨_, _, _, rfl, -, -, -, hbut⟩ := hrd
        have HI4 := Lib.hid (but_up hbut HI3.out HNL.out (by omega)); have HP4 := Lib.hid (but_up hbut HP3.out HNB.out (by omega)); clear hbut HDz3 HI3 HP3
        obtain ⟨okF, hoF⟩ : ∃ o : Bool, o = (okj && kb && kk && kd) := ⟨_, rfl⟩
        have HDz5 : Hid (DS w ((z4.setCell ⟨w.heap.size + 2, 11, none⟩ (.int .i64 vk)).setCell ⟨w.heap.size + 2, 12, none⟩ (.string vd)) #[.int .i64 v0, .int .i64 v1, .string v2, .int .i64 v3, .int .i64 v4, .int .i64 v5, .int .i64 v6, .int .i64 v7, .slice Al nl cl, .slice B j k, .string vb, .int .i64 vk, .string vd] rd13 okF) := by rw [hoF]; exact Lib.hid ((HDz4.out.setp rfl 11 (.int .i64 vk)).setp rfl 12 (.string vd))
        have HI5 := Lib.hid (set_up (set_up HI4.out HNL.out 11 (.int .i64 vk)) HNL.out 12 (.string vd)); have HP5 := Lib.hid (set_up (set_up HP4.out HNB.out 11 (.int .i64 vk)) HNB.out 12 (.string vd))
        have HOF : Hid (okF = (k0 && k1 && k2 && k3 && k4 && k5 && k6 && k7 && k8 && ky && kj && kb && kk && kd)) := by unfold Hid; rw [hoF, HOJ.out]
        rw [← HOF.out] at HSPj
        clear hoF HOF HOJ
        obtain ⟨hc0, hc1, hc2, hc3, hc4, hc5, hc6, hc7, hc8, hc9', hc10, hc11, hc12⟩ := stm_cells (A := Al) (n := nl) (c := cl) (B := B) (m := j) (k := k) (s := ⟨v0, v1, v2, v3, v4, v5, v6, v7, v8, lj, vb, 0, ⟨#[]⟩⟩) HDz4.out.hp
        have hz11 : z4.frozen? ⟨w.heap.size + 2, 11, none⟩ = false := HDz4.out.froz 11
        have hz12 : z4.frozen? ⟨w.heap.size + 2, 12, none⟩ = false := HDz4.out.froz 12
        obtain ⟨Af, mf, cf, hRf, hrf⟩ := HDz5.out.rd
        have hlf : rd13.length = mf := hrf.len
        have hcf0 : ((z4.setCell ⟨w.heap.size + 2, 11, none⟩ (.int .i64 vk)).setCell ⟨w.heap.size + 2, 12, none⟩ (.string vd)).cell? ⟨w.heap.size + 1, 0, none⟩ = some (.slice Af mf cf) := by rw [cell_of_row _ _ _ _ _ _ hRf]; rfl
        have hcf1 : ((z4.setCell ⟨w.heap.size + 2, 11, none⟩ (.int .i64 vk)).setCell ⟨w.heap.size + 2, 12, none⟩ (.string vd)).cell? ⟨w.heap.size + 1, 1, none⟩ = some (.bool okF) := by rw [cell_of_row _ _ _ _ _ _ hRf]; rfl
        clear hRf hrf HDz4 HI4 HP4
        have HZ1 := Lib.hid hcf0; have HZ2 := Lib.hid hcf1
        have hsm : Small ⟨v0, v1, v2, v3, v4, v5, v6, v7, v8, lj, vb, vk, vd⟩ := ⟨by simp only; omega, by simp only; omega, by simp only; omega, by simp only; omega, by simp only; omega, by simp only; omega⟩
        have HSM := Lib.hid hsm
        have HCK := Lib.hid (refCheck_any ⟨v0, v1, v2, v3, v4, v5, v6, v7, v8, lj, vb, vk, vd⟩ Al nl cl B j k ((z4.setCell ⟨w.heap.size + 2, 11, none⟩ (.int .i64 vk)).setCell ⟨w.heap.size + 2, 12, none⟩ (.string vd)) HI5.out HP5.out (by omega) (by omega) (by simp only; omega))
        have HSL : Hid (∀ y, Below ((z4.setCell ⟨w.heap.size + 2, 11, none⟩ (.int .i64 vk)).setCell ⟨w.heap.size + 2, 12, none⟩ (.string vd)).heap.size ((z4.setCell ⟨w.heap.size + 2, 11, none⟩ (.int .i64 vk)).setCell ⟨w.heap.size + 2, 12, none⟩ (.string vd)) y → Calls Tryd.prog 32 #[stmV ⟨v0, v1, v2, v3, v4, v5, v6, v7, v8, lj, vb, vk, vd⟩ Al nl cl B j k] y (SaysL (.bool (sealedB ⟨v0, v1, v2, v3, v4, v5, v6, v7, v8, lj, vb, vk, vd⟩)) y)) := Lib.hid fun y h => refSealed_any ⟨v0, v1, v2, v3, v4, v5, v6, v7, v8, lj, vb, vk, vd⟩ Al nl cl B j k y (IRow.later HI5.out h) (PRow.later HP5.out h) HSM.out
        have HEN : Hid (∀ y, Below ((z4.setCell ⟨w.heap.size + 2, 11, none⟩ (.int .i64 vk)).setCell ⟨w.heap.size + 2, 12, none⟩ (.string vd)).heap.size ((z4.setCell ⟨w.heap.size + 2, 11, none⟩ (.int .i64 vk)).setCell ⟨w.heap.size + 2, 12, none⟩ (.string vd)) y → Calls Tryd.prog 19 #[stmV ⟨v0, v1, v2, v3, v4, v5, v6, v7, v8, lj, vb, vk, vd⟩ Al nl cl B j k] y (EncS y ⟨v0, v1, v2, v3, v4, v5, v6, v7, v8, lj, vb, vk, vd⟩)) := Lib.hid fun y h => refEncode_any ⟨v0, v1, v2, v3, v4, v5, v6, v7, v8, lj, vb, vk, vd⟩ Al nl cl B j k y (IRow.later HI5.out h) (PRow.later HP5.out h) HSM.out
        have HEB : Hid (checkV ⟨v0, v1, v2, v3, v4, v5, v6, v7, v8, lj, vb, vk, vd⟩ = 0 → sealedB ⟨v0, v1, v2, v3, v4, v5, v6, v7, v8, lj, vb, vk, vd⟩ = true → encB ⟨v0, v1, v2, v3, v4, v5, v6, v7, v8, lj, vb, vk, vd⟩ = wholeB ⟨v0, v1, v2, v3, v4, v5, v6, v7, v8, lj, vb, vk, vd⟩) := Lib.hid fun h1 h2 => by unfold encB; rw [if_pos h1, if_pos h2]
        unfold stmV at HCK HSL HEN
        simp only at HCK HSL HEN
        generalize checkV ⟨v0, v1, v2, v3, v4, v5, v6, v7, v8, lj, vb, vk, vd⟩ = cv at HSPj HCK HEB
        generalize sealedB ⟨v0, v1, v2, v3, v4, v5, v6, v7, v8, lj, vb, vk, vd⟩ = sv at HSPj HSL HEB
        generalize wholeB ⟨v0, v1, v2, v3, v4, v5, v6, v7, v8, lj, vb, vk, vd⟩ = wb at HSPj HEB
        clear hsm
        cases okF
        · have HV := Lib.hid (HSPj.out.1 rfl)
          go_wp2_with (refine wpList_store_row rfl 27 (.tmp 2) (.tmp 127) rfl w.heap.size zeroA rfl rfl 27 _ HDz5.out.hq (by kernel_rfl) rfl (by simp [Value.oneCell', zeroA]) ?_)
          refine bodyPost_ret (results_rdec rfl rfl (setRow_heap _ _ _ zeroA _ _ HDz5.out.hq) rfl) rfl ⟨none, 0, 0, none, 0, 0, by rw [HDS.out, HDE.out, HV.out]; rfl, by rw [HDS.out, HV.out]; exact Row.nilRow _ _, by rw [HDS.out, HV.out]; exact Row.nilRow _ _, below_setRow HDz5.out.hb (Nat.le_refl _) _⟩
        by_cases h0 : mf = 0
        rotate_left
        · have e0 : 0 < mf := by omega
          have HV := Lib.hid ((HSPj.out.2 rfl).1 (by rw [hlf]; exact h0))
          go_wp2_with (refine wpList_store_row rfl 27 (.tmp 2) (.tmp 127) rfl w.heap.size zeroA rfl rfl 27 _ HDz5.out.hq (by kernel_rfl) rfl (by simp [Value.oneCell', zeroA]) ?_)
          refine bodyPost_ret (results_rdec rfl rfl (setRow_heap _ _ _ zeroA _ _ HDz5.out.hq) rfl) rfl ⟨none, 0, 0, none, 0, 0, by rw [HDS.out, HDE.out, HV.out]; rfl, by rw [HDS.out, HV.out]; exact Row.nilRow _ _, by rw [HDS.out, HV.out]; exact Row.nilRow _ _, below_setRow HDz5.out.hb (Nat.le_refl _) _⟩
        have HSP2 := Lib.hid ((HSPj.out.2 rfl).2 (by rw [hlf]; exact h0))
        clear HSPj
        go_wp2_with fail
        refine HCK.out.mono ?_
        clear hc0 hc1 hc2 hc3 hc4 hc5 hc6 hc7 hc8 hc9' hc10 hc11 hc12 hz11 hz12
        generalize ((z4.setCell ⟨w.heap.size + 2, 11, none⟩ (.int .i64 vk)).setCell ⟨w.heap.size + 2, 12, none⟩ (.string vd)) = z5 at HDz5 HI5 HP5 HSL HEN HZ1 HZ2 ⊢
        rintro e z6 ⟨rfl, hb⟩
        have HD6 := Lib.hid (HDz5.out.later hb); have HI6 := Lib.hid (IRow.later HI5.out hb); have HP6 := Lib.hid (PRow.later HP5.out hb); have HN6 := Lib.hid hb
        clear hb HI5 HP5 HCK HZ1 HZ2
        by_cases hc0 : cv = 0
        rotate_left
        · have g1 : (cv == 0) = false := by simpa using hc0
          have HV := Lib.hid (HSP2.out.1 hc0)
          go_wp2_with (refine wpList_store_row rfl 27 (.tmp 2) (.tmp 127) rfl w.heap.size zeroA rfl rfl 27 _ HD6.out.hq (by kernel_rfl) rfl (by simp [Value.oneCell', zeroA]) ?_)
          refine bodyPost_ret (results_rdec rfl rfl (setRow_heap _ _ _ zeroA _ _ HD6.out.hq) rfl) rfl ⟨none, 0, 0, none, 0, 0, by rw [HDS.out, HDE.out, HV.out]; rfl, by rw [HDS.out, HV.out]; exact Row.nilRow _ _, by rw [HDS.out, HV.out]; exact Row.nilRow _ _, below_setRow HD6.out.hb (Nat.le_refl _) _⟩
        subst hc0
        have HSP3 := Lib.hid (HSP2.out.2 rfl); clear HSP2
        obtain ⟨hc0, hc1, hc2, hc3, hc4, hc5, hc6, hc7, hc8, hc9, hc10, hc11, hc12⟩ := stm_cells (A := Al) (n := nl) (c := cl) (B := B) (m := j) (k := k) (s := ⟨v0, v1, v2, v3, v4, v5, v6, v7, v8, lj, vb, vk, vd⟩) HD6.out.hp
        go_wp2_with fail
        refine (HSL.out z6 HN6.out).mono ?_
        rintro e z7 ⟨rfl, hb⟩
        have HD7 := Lib.hid (HD6.out.later hb); have HI7 := Lib.hid (IRow.later HI6.out hb); have HP7 := Lib.hid (PRow.later HP6.out hb); have HN7 := Lib.hid (HN6.out.trans (hb.mono HN6.out.size))
        clear hb HI6 HP6 HSL HN6 HD6 hc0 hc1 hc2 hc3 hc4 hc5 hc6 hc7 hc8 hc9 hc10 hc11 hc12
        cases sv
        · have HV := Lib.hid (HSP3.out.1 rfl)
          go_wp2_with (refine wpList_store_row rfl 27 (.tmp 2) (.tmp 127) rfl w.heap.size zeroA rfl rfl 27 _ HD7.out.hq (by kernel_rfl) rfl (by simp [Value.oneCell', zeroA]) ?_)
          refine bodyPost_ret (results_rdec rfl rfl (setRow_heap _ _ _ zeroA _ _ HD7.out.hq) rfl) rfl ⟨none, 0, 0, none, 0, 0, by rw [HDS.out, HDE.out, HV.out]; rfl, by rw [HDS.out, HV.out]; exact Row.nilRow _ _, by rw [HDS.out, HV.out]; exact Row.nilRow _ _, below_setRow HD7.out.hb (Nat.le_refl _) _⟩
        have HSP4 := Lib.hid (HSP3.out.2 rfl); clear HSP3
        obtain ⟨hc0, hc1, hc2, hc3, hc4, hc5, hc6, hc7, hc8, hc9, hc10, hc11, hc12⟩ := stm_cells (A := Al) (n := nl) (c := cl) (B := B) (m := j) (k := k) (s := ⟨v0, v1, v2, v3, v4, v5, v6, v7, v8, lj, vb, vk, vd⟩) HD7.out.hp
        go_wp2_with fail
        refine (HEN.out z7 HN7.out).mono ?_
        rintro e z8 ⟨A8, m8, c8, rfl, hr8, hb⟩
        have HD8 := Lib.hid (HD7.out.later hb); have HI8 := Lib.hid (IRow.later HI7.out hb); have HP8 := Lib.hid (PRow.later HP7.out hb)
        rw [HEB.out (by first | rfl | trivial) (by first | rfl | trivial)] at hr8
        obtain ⟨t1, ht1⟩ : ∃ t, t = strOf wb := ⟨_, rfl⟩
        obtain ⟨t2, ht2⟩ : ∃ t, t = strOf us := ⟨_, rfl⟩
        have hcv1 : (convert 28 9 (.slice A8 m8 c8)).run Tryd.prog z8 = .ok (.string t1) z8 := by rw [ht1]; exact run_conv_row hr8 Tryd.underlying28 Tryd.underlying5 Tryd.underlying9
        have hcv2 : (convert 28 9 (.slice A n c)).run Tryd.prog z8 = .ok (.string t2) z8 := by rw [ht2]; exact run_conv_row (Row.later HUS.out HD8.out.hb) Tryd.underlying28 Tryd.underlying5 Tryd.underlying9
        clear hb hr8 HI7 HP7 HEN HN7 HD7 hc0 hc1 hc2 hc3 hc4 hc5 hc6 hc7 hc8 hc9 hc10 hc11 hc12 HEB
        by_cases hw : wb = us
        · have hd := HSP4.out.1 hw
          have HV := Lib.hid hd.1; have HVS := Lib.hid hd.2
          have ht : t1 = t2 := by rw [ht1, ht2, hw]
          have hl : t1.toList = t2.toList := by rw [ht]
          have hl2 : (t1.toList != t2.toList) = false := by rw [hl]; simp
          obtain ⟨hc0, hc1, hc2, hc3, hc4, hc5, hc6, hc7, hc8, hc9, hc10, hc11, hc12⟩ := stm_cells (A := Al) (n := nl) (c := cl) (B := B) (m := j) (k := k) (s := ⟨v0, v1, v2, v3, v4, v5, v6, v7, v8, lj, vb, vk, vd⟩) HD8.out.hp
          clear ht1 ht2 hd ht
          go_wp2_with (refine wpList_store_row rfl 27 (.tmp 2) (.tmp 139) rfl w.heap.size #[.int .i64 v0, .int .i64 v1, .string v2, .int .i64 v3, .int .i64 v4, .int .i64 v5, .int .i64 v6, .int .i64 v7, .slice Al nl cl, .slice B j k, .string vb, .int .i64 vk, .string vd] rfl rfl 27 _ HD8.out.hq (by kernel_rfl) rfl (by simp [Value.oneCell']) ?_)
          have hds : DS0 = ⟨v0, v1, v2, v3, v4, v5, v6, v7, v8, lj, vb, vk, vd⟩ := by rw [HDS.out, HV.out, if_pos rfl]; have := HVS.out; unfold decS at this; rw [HV.out, if_pos rfl] at this; exact this
          refine bodyPost_ret (results_rdec rfl rfl (setRow_heap _ _ _ #[.int .i64 v0, .int .i64 v1, .string v2, .int .i64 v3, .int .i64 v4, .int .i64 v5, .int .i64 v6, .int .i64 v7, .slice Al nl cl, .slice B j k, .string vb, .int .i64 vk, .string vd] _ _ HD8.out.hq) rfl) rfl ⟨Al, nl, cl, B, j, k, by rw [hds, HDE.out, HV.out]; rfl, ?_, ?_, below_setRow HD8.out.hb (Nat.le_refl _) _⟩
          · rw [hds]; exact Row.keep HI8.out fun ad hA _ _ => setRow_other _ _ _ _ (by have := HNL.out ad hA; omega)
          · rw [hds]; exact Row.keep HP8.out fun ad hA _ _ => setRow_other _ _ _ _ (by have := HNB.out ad hA; omega)
        · have HV := Lib.hid (HSP4.out.2 hw)
          have hl : ¬ t1.toList = t2.toList := fun h => hw (strOf_inj (by rw [← ht1, ← ht2]; exact (toList_iff _ _).1 h))
          have hl2 : (t1.toList == t2.toList) = false := by simpa using hl
          clear ht1 ht2 hw
          go_wp2_with (refine wpList_store_row rfl 27 (.tmp 2) (.tmp 138) rfl w.heap.size zeroA rfl rfl 27 _ HD8.out.hq (by kernel_rfl) rfl (by simp [Value.oneCell', zeroA]) ?_)
          refine bodyPost_ret (results_rdec rfl rfl (setRow_heap _ _ _ zeroA _ _ HD8.out.hq) rfl) rfl ⟨none, 0, 0, none, 0, 0, by rw [HDS.out, HDE.out, HV.out]; rfl, by rw [HDS.out, HV.out]; exact Row.nilRow _ _, by rw [HDS.out, HV.out]; exact Row.nilRow _ _, below_setRow HD8.out.hb (Nat.le_refl _) _⟩
  · have hdone : True := trivial
    clear hdone
    go_wp2_with fail
    have HDa : Hid (DS w (((y9.setCell ⟨w.heap.size + 2, 8, none⟩ (.slice Al nl cl)).setCell ⟨w.heap.size + 1, 0, none⟩ (.slice A9 m9 c9)).setCell ⟨w.heap.size + 1, 1, none⟩ (.bool k8)) #[.int .i64 v0, .int .i64 v1, .string v2, .int .i64 v3, .int .i64 v4, .int .i64 v5, .int .i64 v6, .int .i64 v7, .slice Al nl cl, .slice none 0 0, .string ⟨#[]⟩, .int .i64 0, .string ⟨#[]⟩] r9 k8) := Lib.hid ((HD9.out.setp rfl 8 (.slice Al nl cl)).setrd (Row.but HB9.out (But.set _ _ _) (row_u8 HB9.out HD9.out.hp rfl)) k8)
    have HIa : Hid (IRow (((y9.setCell ⟨w.heap.size + 2, 8, none⟩ (.slice Al nl cl)).setCell ⟨w.heap.size + 1, 0, none⟩ (.slice A9 m9 c9)).setCell ⟨w.heap.size + 1, 1, none⟩ (.bool k8)) Al nl cl v8) := Lib.hid (list_keep HIL.out HNL.out)
    clear HD9 HIL HB9 hc8 hz8 hcd0 hcd1 hzd0 hzd1
    generalize (((y9.setCell ⟨w.heap.size + 2, 8, none⟩ (.slice Al nl cl)).setCell ⟨w.heap.size + 1, 0, none⟩ (.slice A9 m9 c9)).setCell ⟨w.heap.size + 1, 1, none⟩ (.bool k8)) = ya at HDa HIa ⊢
    obtain ⟨oa, hoa⟩ : ∃ o : Bool, o = k8 := ⟨_, rfl⟩
    have HOC : Hid (oa = (k0 && k1 && k2 && k3 && k4 && k5 && k6 && k7 && k8)) := by unfold Hid; rw [hoa]; rw [← HOA.out]; simp
    rw [← hoa] at HDa
    clear hoa
    refine (NY.out oa ya HDa.out.rd).mono ?_
    rintro e yb hrd
    have HDb := Lib.hid (HDa.out.read hrd)
    obtain ⟨_, _, _, rfl, -, -, -, hbut⟩ := hrd
    have HIb := Lib.hid (but_up hbut HIa.out HNL.out (by omega)); clear hbut HDa HIa NY
    obtain ⟨Ab, nb, cb, hRb, hrb⟩ := HDb.out.rd
    have HRb := Lib.hid hRb; have HXb := Lib.hid hrb; clear hRb hrb
    go_wp2_with fail
    go_loopw [9] (fun i wr => ∃ j : Nat, j ≤ n0.toNat ∧ j ≤ 64 ∧ i = .int .i64 (n0 - j) ∧ ∃ B k okj Aj nj cj, Hid (DS w wr #[.int .i64 v0, .int .i64 v1, .string v2, .int .i64 v3, .int .i64 v4, .int .i64 v5, .int .i64 v6, .int .i64 v7, .slice Al nl cl, .slice B j k, .string ⟨#[]⟩, .int .i64 0, .string ⟨#[]⟩] (pinsL j ry).2.1 okj ∧ okj = (k0 && k1 && k2 && k3 && k4 && k5 && k6 && k7 && k8 && ky && (pinsL j ry).2.2) ∧ POwn wr (w.heap.size + 3) (.slice B j k) (pinsL j ry).1 ∧ IRow wr Al nl cl v8 ∧ (∀ ad, Al = some ad → 0 < nl → Value.ownBlock (.slice B j k) ≠ some ad.block) ∧
        wr.heap[w.heap.size + 1]? = some (.cells #[.slice Aj nj cj, .bool okj] 73 (0, 0)) ∧ BRow wr Aj nj cj (pinsL j ry).2.1 ∧ (∀ ad, Aj = some ad → Value.ownBlock (.slice B j k) ≠ some ad.block))) (fun i _ => (intOf i).toNat)
    case atStart => exact ⟨0, Nat.zero_le _, by omega, by simp, none, 0, (oa && ky), Ab, nb, cb, Lib.hid ⟨HDb.out, by rw [HOC.out]; simp [pinsL], World.ownsRow_nil _ _ _ _, HIb.out, (fun _ _ _ h => by cases h), HRb.out, HXb.out, (fun _ _ h => by cases h)⟩⟩
    case round =>
      obtain ⟨j, hjn, hj64, rfl, B, k, okj, Aj, nj, cj, HQ⟩ := hrel
      have hc9 : wr.cell? ⟨w.heap.size + 2, 9, none⟩ = some (.slice B j k) := by rw [HQ.out.1.cells]; rfl
      have hcd : wr.cell? ⟨w.heap.size + 1, 1, none⟩ = some (.bool okj) := by rw [cell_of_row _ _ _ _ _ _ HQ.out.2.2.2.2.2.1]; rfl
      by_cases hgt : 0 < n0 - (j : Int)
      · cases okj
        · have HDw := Lib.hid HQ.out.1; have HOJ := Lib.hid HQ.out.2.1; have HIR := Lib.hid HQ.out.2.2.2.1
          have HPR : Hid (PRow wr B j k (pinsL j ry).1) := Lib.hid (own_prow HQ.out.2.2.1)
          have HNB : Hid (∀ ad, B = some ad → w.heap.size + 2 < ad.block) := Lib.hid fun ad hA => by subst hA; exact (World.ownsRow.lt HQ.out.2.2.1 _ rfl).1
          obtain ⟨okj, hokj⟩ : ∃ o : Bool, o = false := ⟨_, rfl⟩
          rw [← hokj] at HDw HOJ hcd
          clear HQ HDb HIb HRb HXb
          have hlr : (pinsL j ry).2.1.length ≤ 900000 := Nat.le_trans (pinsL_le ry j) hly
          have HSPj := Lib.hid (HSP.out (pinsL j ry) (takeS (pinsL j ry).2.1 4096) (takeI (takeS (pinsL j ry).2.1 4096).2.1) (takeS (takeI (takeS (pinsL j ry).2.1 4096).2.1).2.1 32) j _ rfl rfl rfl rfl rfl hjn hj64 (.inr (by rw [← HOJ.out, hokj])))
          have NB := Lib.hid (fun ok y h => refRdText (w.heap.size + 1) (pinsL j ry).2.1 ok 4096 y h hlr)
          have hlb := Nat.le_trans (takeS_le (pinsL j ry).2.1 4096) hlr
          have hsb := takeS_size (pinsL j ry).2.1 4096 (by omega)
          have hpb := pinsL_size ry j
          have hpl := pinsL_len ry j
          clear HSP
          generalize (pinsL j ry).2.1 = rj at HSPj NB hlb hsb HDw
          generalize (pinsL j ry).2.2 = kj at HSPj HOJ
          generalize (pinsL j ry).1 = lj at HSPj HPR hpb hpl
          generalize takeS rj 4096 = Xb at HSPj NB hlb hsb
          obtain ⟨vb, rb, kb⟩ := Xb
          simp only at HSPj NB hlb hsb
          have NK := Lib.hid (fun ok y h => refRdInt (w.heap.size + 1) rb ok y h hlb)
          have hlk := Nat.le_trans (takeI_le rb) hlb
          generalize takeI rb = Xk at HSPj NK hlk
          obtain ⟨vk, rk, kk⟩ := Xk
          simp only at HSPj NK hlk
          have ND := Lib.hid (fun ok y h => refRdText (w.heap.size + 1) rk ok 32 y h hlk)
          have hsd := takeS_size rk 32 (by omega)
          generalize takeS rk 32 = Xd at HSPj ND hsd
          obtain ⟨vd, rd13, kd⟩ := Xd
          simp only at HSPj ND hsd
          go_wp2_with fail
          refine (NB.out okj wr HDw.out.rd).mono ?_
          rintro e z1 hrd
          have HDz1 := Lib.hid (HDw.out.read hrd)
          obtain ⟨_, _, _, rfl, -, -, -, hbut⟩ := hrd
          have HI1 := Lib.hid (but_up hbut HIR.out HNL.out (by omega)); have HP1 := Lib.hid (but_up hbut HPR.out HNB.out (by omega)); clear hbut HDw HIR HPR
          have hc10 : z1.cell? ⟨w.heap.size + 2, 10, none⟩ = some (.string ⟨#[]⟩) := by rw [HDz1.out.cells]; rfl
          have hz10 : z1.frozen? ⟨w.heap.size + 2, 10, none⟩ = false := HDz1.out.froz 10
          go_wp2_with fail
          have HDz2 : Hid (DS w (z1.setCell ⟨w.heap.size + 2, 10, none⟩ (.string vb)) #[.int .i64 v0, .int .i64 v1, .string v2, .int .i64 v3, .int .i64 v4, .int .i64 v5, .int .i64 v6, .int .i64 v7, .slice Al nl cl, .slice B j k, .string vb, .int .i64 0, .string ⟨#[]⟩] rb (okj && kb)) := Lib.hid (HDz1.out.setp rfl 10 (.string vb))
          have HI2 := Lib.hid (set_up HI1.out HNL.out 10 (.string vb)); have HP2 := Lib.hid (set_up HP1.out HNB.out 10 (.string vb))
          clear HDz1 HI1 HP1 hc10 hz10
          generalize z1.setCell ⟨w.heap.size + 2, 10, none⟩ (.string vb) = z2 at HDz2 HI2 HP2 ⊢
          refine (NK.out (okj && kb) z2 HDz2.out.rd).mono ?_
          rintro e z3 hrd
          have HDz3 := Lib.hid (HDz2.out.read hrd)
          obtain ⟨_, _, _, rfl, -, -, -, hbut⟩ := hrd
          have HI3 := Lib.hid (but_up hbut HI2.out HNL.out (by omega)); have HP3 := Lib.hid (but_up hbut HP2.out HNB.out (by omega)); clear hbut HDz2 HI2 HP2
          go_wp2_with fail
          refine (ND.out (okj && kb && kk) z3 HDz3.out.rd).mono ?_
          rintro e z4 hrd
          have HDz4 := Lib.hid (HDz3.out.read hrd)
          obtain ⟨_, _, _, rfl, -, -, -, hbut⟩ := hrd
          have HI4 := Lib.hid (but_up hbut HI3.out HNL.out (by omega)); have HP4 := Lib.hid (but_up hbut HP3.out HNB.out (by omega)); clear hbut HDz3 HI3 HP3
          obtain ⟨okF, hoF⟩ : ∃ o : Bool, o = (okj && kb && kk && kd) := ⟨_, rfl⟩
          have HDz5 : Hid (DS w ((z4.setCell ⟨w.heap.size + 2, 11, none⟩ (.int .i64 vk)).setCell ⟨w.heap.size + 2, 12, none⟩ (.string vd)) #[.int .i64 v0, .int .i64 v1, .string v2, .int .i64 v3, .int .i64 v4, .int .i64 v5, .int .i64 v6, .int .i64 v7, .slice Al nl cl, .slice B j k, .string vb, .int .i64 vk, .string vd] rd13 okF) := by rw [hoF]; exact Lib.hid ((HDz4.out.setp rfl 11 (.int .i64 vk)).setp rfl 12 (.string vd))
          have HI5 := Lib.hid (set_up (set_up HI4.out HNL.out 11 (.int .i64 vk)) HNL.out 12 (.string vd)); have HP5 := Lib.hid (set_up (set_up HP4.out HNB.out 11 (.int .i64 vk)) HNB.out 12 (.string vd))
          have HOF : Hid (okF = (k0 && k1 && k2 && k3 && k4 && k5 && k6 && k7 && k8 && ky && kj && kb && kk && kd)) := by unfold Hid; rw [hoF, HOJ.out]
          rw [← HOF.out] at HSPj
          clear hoF HOF HOJ
          obtain ⟨hc0, hc1, hc2, hc3, hc4, hc5, hc6, hc7, hc8, hc9', hc10, hc11, hc12⟩ := stm_cells (A := Al) (n := nl) (c := cl) (B := B) (m := j) (k := k) (s := ⟨v0, v1, v2, v3, v4, v5, v6, v7, v8, lj, vb, 0, ⟨#[]⟩⟩) HDz4.out.hp
          have hz11 : z4.frozen? ⟨w.heap.size + 2, 11, none⟩ = false := HDz4.out.froz 11
          have hz12 : z4.frozen? ⟨w.heap.size + 2, 12, none⟩ = false := HDz4.out.froz 12
          obtain ⟨Af, mf, cf, hRf, hrf⟩ := HDz5.out.rd
          have hlf : rd13.length = mf := hrf.len
          have hcf0 : ((z4.setCell ⟨w.heap.size + 2, 11, none⟩ (.int .i64 vk)).setCell ⟨w.heap.size + 2, 12, none⟩ (.string vd)).cell? ⟨w.heap.size + 1, 0, none⟩ = some (.slice Af mf cf) := by rw [cell_of_row _ _ _ _ _ _ hRf]; rfl
          have hcf1 : ((z4.setCell ⟨w.heap.size + 2, 11, none⟩ (.int .i64 vk)).setCell ⟨w.heap.size + 2, 12, none⟩ (.string vd)).cell? ⟨w.heap.size + 1, 1, none⟩ = some (.bool okF) := by rw [cell_of_row _ _ _ _ _ _ hRf]; rfl
          clear hRf hrf HDz4 HI4 HP4
          have HZ1 := Lib.hid hcf0; have HZ2 := Lib.hid hcf1
          have hsm : Small ⟨v0, v1, v2, v3, v4, v5, v6, v7, v8, lj, vb, vk, vd⟩ := ⟨by simp only; omega, by simp only; omega, by simp only; omega, by simp only; omega, by simp only; omega, by simp only; omega⟩
          have HSM := Lib.hid hsm
          have HCK := Lib.hid (refCheck_any ⟨v0, v1, v2, v3, v4, v5, v6, v7, v8, lj, vb, vk, vd⟩ Al nl cl B j k ((z4.setCell ⟨w.heap.size + 2, 11, none⟩ (.int .i64 vk)).setCell ⟨w.heap.size + 2, 12, none⟩ (.string vd)) HI5.out HP5.out (by omega) (by omega) (by simp only; omega))
          have HSL : Hid (∀ y, Below ((z4.setCell ⟨w.heap.size + 2, 11, none⟩ (.int .i64 vk)).setCell ⟨w.heap.size + 2, 12, none⟩ (.string vd)).heap.size ((z4.setCell ⟨w.heap.size + 2, 11, none⟩ (.int .i64 vk)).setCell ⟨w.heap.size + 2, 12, none⟩ (.string vd)) y → Calls Tryd.prog 32 #[stmV ⟨v0, v1, v2, v3, v4, v5, v6, v7, v8, lj, vb, vk, vd⟩ Al nl cl B j k] y (SaysL (.bool (sealedB ⟨v0, v1, v2, v3, v4, v5, v6, v7, v8, lj, vb, vk, vd⟩)) y)) := Lib.hid fun y h => refSealed_any ⟨v0, v1, v2, v3, v4, v5, v6, v7, v8, lj, vb, vk, vd⟩ Al nl cl B j k y (IRow.later HI5.out h) (PRow.later HP5.out h) HSM.out
          have HEN : Hid (∀ y, Below ((z4.setCell ⟨w.heap.size + 2, 11, none⟩ (.int .i64 vk)).setCell ⟨w.heap.size + 2, 12, none⟩ (.string vd)).heap.size ((z4.setCell ⟨w.heap.size + 2, 11, none⟩ (.int .i64 vk)).setCell ⟨w.heap.size + 2, 12, none⟩ (.string vd)) y → Calls Tryd.prog 19 #[stmV ⟨v0, v1, v2, v3, v4, v5, v6, v7, v8, lj, vb, vk, vd⟩ Al nl cl B j k] y (EncS y ⟨v0, v1, v2, v3, v4, v5, v6, v7, v8, lj, vb, vk, vd⟩)) := Lib.hid fun y h => refEncode_any ⟨v0, v1, v2, v3, v4, v5, v6, v7, v8, lj, vb, vk, vd⟩ Al nl cl B j k y (IRow.later HI5.out h) (PRow.later HP5.out h) HSM.out
          have HEB : Hid (checkV ⟨v0, v1, v2, v3, v4, v5, v6, v7, v8, lj, vb, vk, vd⟩ = 0 → sealedB ⟨v0, v1, v2, v3, v4, v5, v6, v7, v8, lj, vb, vk, vd⟩ = true → encB ⟨v0, v1, v2, v3, v4, v5, v6, v7, v8, lj, vb, vk, vd⟩ = wholeB ⟨v0, v1, v2, v3, v4, v5, v6, v7, v8, lj, vb, vk, vd⟩) := Lib.hid fun h1 h2 => by unfold encB; rw [if_pos h1, if_pos h2]
          unfold stmV at HCK HSL HEN
          simp only at HCK HSL HEN
          generalize checkV ⟨v0, v1, v2, v3, v4, v5, v6, v7, v8, lj, vb, vk, vd⟩ = cv at HSPj HCK HEB
          generalize sealedB ⟨v0, v1, v2, v3, v4, v5, v6, v7, v8, lj, vb, vk, vd⟩ = sv at HSPj HSL HEB
          generalize wholeB ⟨v0, v1, v2, v3, v4, v5, v6, v7, v8, lj, vb, vk, vd⟩ = wb at HSPj HEB
          clear hsm
          cases okF
          · have HV := Lib.hid (HSPj.out.1 rfl)
            go_wp2_with (refine wpList_store_row rfl 27 (.tmp 2) (.tmp 127) rfl w.heap.size zeroA rfl rfl 27 _ HDz5.out.hq (by kernel_rfl) rfl (by simp [Value.oneCell', zeroA]) ?_)
            refine bodyPost_ret (results_rdec rfl rfl (setRow_heap _ _ _ zeroA _ _ HDz5.out.hq) rfl) rfl ⟨none, 0, 0, none, 0, 0, by rw [HDS.out, HDE.out, HV.out]; rfl, by rw [HDS.out, HV.out]; exact Row.nilRow _ _, by rw [HDS.out, HV.out]; exact Row.nilRow _ _, below_setRow HDz5.out.hb (Nat.le_refl _) _⟩
          by_cases h0 : mf = 0
          rotate_left
          · have e0 : 0 < mf := by omega
            have HV := Lib.hid ((HSPj.out.2 rfl).1 (by rw [hlf]; exact h0))
            go_wp2_with (refine wpList_store_row rfl 27 (.tmp 2) (.tmp 127) rfl w.heap.size zeroA rfl rfl 27 _ HDz5.out.hq (by kernel_rfl) rfl (by simp [Value.oneCell', zeroA]) ?_)
            refine bodyPost_ret (results_rdec rfl rfl (setRow_heap _ _ _ zeroA _ _ HDz5.out.hq) rfl) rfl ⟨none, 0, 0, none, 0, 0, by rw [HDS.out, HDE.out, HV.out]; rfl, by rw [HDS.out, HV.out]; exact Row.nilRow _ _, by rw [HDS.out, HV.out]; exact Row.nilRow _ _, below_setRow HDz5.out.hb (Nat.le_refl _) _⟩
          have HSP2 := Lib.hid ((HSPj.out.2 rfl).2 (by rw [hlf]; exact h0))
          clear HSPj
          go_wp2_with fail
          refine HCK.out.mono ?_
          clear hc0 hc1 hc2 hc3 hc4 hc5 hc6 hc7 hc8 hc9' hc10 hc11 hc12 hz11 hz12
          generalize ((z4.setCell ⟨w.heap.size + 2, 11, none⟩ (.int .i64 vk)).setCell ⟨w.heap.size + 2, 12, none⟩ (.string vd)) = z5 at HDz5 HI5 HP5 HSL HEN HZ1 HZ2 ⊢
          rintro e z6 ⟨rfl, hb⟩
          have HD6 := Lib.hid (HDz5.out.later hb); have HI6 := Lib.hid (IRow.later HI5.out hb); have HP6 := Lib.hid (PRow.later HP5.out hb); have HN6 := Lib.hid hb
          clear hb HI5 HP5 HCK HZ1 HZ2
          by_cases hc0 : cv = 0
          rotate_left
          · have g1 : (cv == 0) = false := by simpa using hc0
            have HV := Lib.hid (HSP2.out.1 hc0)
            go_wp2_with (refine wpList_store_row rfl 27 (.tmp 2) (.tmp 127) rfl w.heap.size zeroA rfl rfl 27 _ HD6.out.hq (by kernel_rfl) rfl (by simp [Value.oneCell', zeroA]) ?_)
            refine bodyPost_ret (results_rdec rfl rfl (setRow_heap _ _ _ zeroA _ _ HD6.out.hq) rfl) rfl ⟨none, 0, 0, none, 0, 0, by rw [HDS.out, HDE.out, HV.out]; rfl, by rw [HDS.out, HV.out]; exact Row.nilRow _ _, by rw [HDS.out, HV.out]; exact Row.nilRow _ _, below_setRow HD6.out.hb (Nat.le_refl _) _⟩
          subst hc0
          have HSP3 := Lib.hid (HSP2.out.2 rfl); clear HSP2
          obtain ⟨hc0, hc1, hc2, hc3, hc4, hc5, hc6, hc7, hc8, hc9, hc10, hc11, hc12⟩ := stm_cells (A := Al) (n := nl) (c := cl) (B := B) (m := j) (k := k) (s := ⟨v0, v1, v2, v3, v4, v5, v6, v7, v8, lj, vb, vk, vd⟩) HD6.out.hp
          go_wp2_with fail
          refine (HSL.out z6 HN6.out).mono ?_
          rintro e z7 ⟨rfl, hb⟩
          have HD7 := Lib.hid (HD6.out.later hb); have HI7 := Lib.hid (IRow.later HI6.out hb); have HP7 := Lib.hid (PRow.later HP6.out hb); have HN7 := Lib.hid (HN6.out.trans (hb.mono HN6.out.size))
          clear hb HI6 HP6 HSL HN6 HD6 hc0 hc1 hc2 hc3 hc4 hc5 hc6 hc7 hc8 hc9 hc10 hc11 hc12
          cases sv
          · have HV := Lib.hid (HSP3.out.1 rfl)
            go_wp2_with (refine wpList_store_row rfl 27 (.tmp 2) (.tmp 127) rfl w.heap.size zeroA rfl rfl 27 _ HD7.out.hq (by kernel_rfl) rfl (by simp [Value.oneCell', zeroA]) ?_)
            refine bodyPost_ret (results_rdec rfl rfl (setRow_heap _ _ _ zeroA _ _ HD7.out.hq) rfl) rfl ⟨none, 0, 0, none, 0, 0, by rw [HDS.out, HDE.out, HV.out]; rfl, by rw [HDS.out, HV.out]; exact Row.nilRow _ _, by rw [HDS.out, HV.out]; exact Row.nilRow _ _, below_setRow HD7.out.hb (Nat.le_refl _) _⟩
          have HSP4 := Lib.hid (HSP3.out.2 rfl); clear HSP3
          obtain ⟨hc0, hc1, hc2, hc3, hc4, hc5, hc6, hc7, hc8, hc9, hc10, hc11, hc12⟩ := stm_cells (A := Al) (n := nl) (c := cl) (B := B) (m := j) (k := k) (s := ⟨v0, v1, v2, v3, v4, v5, v6, v7, v8, lj, vb, vk, vd⟩) HD7.out.hp
          go_wp2_with fail
          refine (HEN.out z7 HN7.out).mono ?_
          rintro e z8 ⟨A8, m8, c8, rfl, hr8, hb⟩
          have HD8 := Lib.hid (HD7.out.later hb); have HI8 := Lib.hid (IRow.later HI7.out hb); have HP8 := Lib.hid (PRow.later HP7.out hb)
          rw [HEB.out (by first | rfl | trivial) (by first | rfl | trivial)] at hr8
          obtain ⟨t1, ht1⟩ : ∃ t, t = strOf wb := ⟨_, rfl⟩
          obtain ⟨t2, ht2⟩ : ∃ t, t = strOf us := ⟨_, rfl⟩
          have hcv1 : (convert 28 9 (.slice A8 m8 c8)).run Tryd.prog z8 = .ok (.string t1) z8 := by rw [ht1]; exact run_conv_row hr8 Tryd.underlying28 Tryd.underlying5 Tryd.underlying9
          have hcv2 : (convert 28 9 (.slice A n c)).run Tryd.prog z8 = .ok (.string t2) z8 := by rw [ht2]; exact run_conv_row (Row.later HUS.out HD8.out.hb) Tryd.underlying28 Tryd.underlying5 Tryd.underlying9
          clear hb hr8 HI7 HP7 HEN HN7 HD7 hc0 hc1 hc2 hc3 hc4 hc5 hc6 hc7 hc8 hc9 hc10 hc11 hc12 HEB
          by_cases hw : wb = us
          · have hd := HSP4.out.1 hw
            have HV := Lib.hid hd.1; have HVS := Lib.hid hd.2
            have ht : t1 = t2 := by rw [ht1, ht2, hw]
            have hl : t1.toList = t2.toList := by rw [ht]
            have hl2 : (t1.toList != t2.toList) = false := by rw [hl]; simp
            obtain ⟨hc0, hc1, hc2, hc3, hc4, hc5, hc6, hc7, hc8, hc9, hc10, hc11, hc12⟩ := stm_cells (A := Al) (n := nl) (c := cl) (B := B) (m := j) (k := k) (s := ⟨v0, v1, v2, v3, v4, v5, v6, v7, v8, lj, vb, vk, vd⟩) HD8.out.hp
            clear ht1 ht2 hd ht
            go_wp2_with (refine wpList_store_row rfl 27 (.tmp 2) (.tmp 139) rfl w.heap.size #[.int .i64 v0, .int .i64 v1, .string v2, .int .i64 v3, .int .i64 v4, .int .i64 v5, .int .i64 v6, .int .i64 v7, .slice Al nl cl, .slice B j k, .string vb, .int .i64 vk, .string vd] rfl rfl 27 _ HD8.out.hq (by kernel_rfl) rfl (by simp [Value.oneCell']) ?_)
            have hds : DS0 = ⟨v0, v1, v2, v3, v4, v5, v6, v7, v8, lj, vb, vk, vd⟩ := by rw [HDS.out, HV.out, if_pos rfl]; have := HVS.out; unfold decS at this; rw [HV.out, if_pos rfl] at this; exact this
            refine bodyPost_ret (results_rdec rfl rfl (setRow_heap _ _ _ #[.int .i64 v0, .int .i64 v1, .string v2, .int .i64 v3, .int .i64 v4, .int .i64 v5, .int .i64 v6, .int .i64 v7, .slice Al nl cl, .slice B j k, .string vb, .int .i64 vk, .string vd] _ _ HD8.out.hq) rfl) rfl ⟨Al, nl, cl, B, j, k, by rw [hds, HDE.out, HV.out]; rfl, ?_, ?_, below_setRow HD8.out.hb (Nat.le_refl _) _⟩
            · rw [hds]; exact Row.keep HI8.out fun ad hA _ _ => setRow_other _ _ _ _ (by have := HNL.out ad hA; omega)
            · rw [hds]; exact Row.keep HP8.out fun ad hA _ _ => setRow_other _ _ _ _ (by have := HNB.out ad hA; omega)
          · have HV := Lib.hid (HSP4.out.2 hw)
            have hl : ¬ t1.toList = t2.toList := fun h => hw (strOf_inj (by rw [← ht1, ← ht2]; exact (toList_iff _ _).1 h))
            have hl2 : (t1.toList == t2.toList) = false := by simpa using hl
            clear ht1 ht2 hw
            go_wp2_with (refine wpList_store_row rfl 27 (.tmp 2) (.tmp 138) rfl w.heap.size zeroA rfl rfl 27 _ HD8.out.hq (by kernel_rfl) rfl (by simp [Value.oneCell', zeroA]) ?_)
            refine bodyPost_ret (results_rdec rfl rfl (setRow_heap _ _ _ zeroA _ _ HD8.out.hq) rfl) rfl ⟨none, 0, 0, none, 0, 0, by rw [HDS.out, HDE.out, HV.out]; rfl, by rw [HDS.out, HV.out]; exact Row.nilRow _ _, by rw [HDS.out, HV.out]; exact Row.nilRow _ _, below_setRow HD8.out.hb (Nat.le_refl _) _⟩
        · have HQDS := Lib.hid HQ.out.1; have HOJ := Lib.hid HQ.out.2.1; have HPO := Lib.hid HQ.out.2.2.1; have HIR := Lib.hid HQ.out.2.2.2.1; have HAL := Lib.hid HQ.out.2.2.2.2.1
          clear HQ HDb HIb HRb HXb
          by_cases h64 : 64 ≤ j
          · have HV := Lib.hid (HBIG.out (by omega))
            go_wp2_with (refine wpList_store_row rfl 27 (.tmp 2) (.tmp 81) rfl w.heap.size zeroA rfl rfl 27 _ HQDS.out.hq (by kernel_rfl) rfl (by simp [Value.oneCell', zeroA]) ?_)
            refine bodyPost_ret (results_rdec rfl rfl (setRow_heap _ _ _ zeroA _ _ HQDS.out.hq) rfl) rfl ⟨none, 0, 0, none, 0, 0, by rw [HDS.out, HDE.out, HV.out]; rfl, by rw [HDS.out, HV.out]; exact Row.nilRow _ _, by rw [HDS.out, HV.out]; exact Row.nilRow _ _, below_setRow HQDS.out.hb (Nat.le_refl _) _⟩
          have hl0 : (pinsL j ry).2.1.length ≤ 900000 := Nat.le_trans (pinsL_le ry j) hly
          have HSS : Hid (pinsL (j + 1) ry = ((pinsL j ry).1 ++ [pinAt (pinsL j ry).2.1], pinRest (pinsL j ry).2.1, (pinsL j ry).2.2 && pinOk (pinsL j ry).2.1)) := Lib.hid rfl
          have HPK : Hid (pinOk (pinsL j ry).2.1 = ((takeI (pinsL j ry).2.1).2.2 && (takeI (takeI (pinsL j ry).2.1).2.1).2.2 && (takeS (takeI (takeI (pinsL j ry).2.1).2.1).2.1 32).2.2)) := Lib.hid rfl
          have HPA : Hid (pinAt (pinsL j ry).2.1 = ⟨(takeI (pinsL j ry).2.1).1, (takeI (takeI (pinsL j ry).2.1).2.1).1, (takeS (takeI (takeI (pinsL j ry).2.1).2.1).2.1 32).1⟩) := Lib.hid rfl
          have HPT : Hid (pinRest (pinsL j ry).2.1 = (takeS (takeI (takeI (pinsL j ry).2.1).2.1).2.1 32).2.1) := Lib.hid rfl
          have HLN := Lib.hid (pinsL_len ry j)
          generalize (pinsL j ry).2.1 = x0 at hl0 HSS HPK HPA HPT HQDS
          generalize (pinsL j ry).1 = l0 at HSS HPO HLN
          have hx1 := Nat.le_trans (takeI_le x0) hl0
          have N0 := Lib.hid (fun ok y h => refRdInt (w.heap.size + 1) x0 ok y h hl0)
          generalize takeI x0 = X0 at hx1 HPK HPA HPT N0
          obtain ⟨a0, x1, q0⟩ := X0
          simp only at hx1 HPK HPA HPT N0
          have hx2 := Nat.le_trans (takeI_le x1) hx1
          have N1 := Lib.hid (fun ok y h => refRdInt (w.heap.size + 1) x1 ok y h hx1)
          generalize takeI x1 = X1 at hx2 HPK HPA HPT N1
          obtain ⟨a1, x2, q1⟩ := X1
          simp only at hx2 HPK HPA HPT N1
          have N2 := Lib.hid (fun ok y h => refRdText (w.heap.size + 1) x2 ok 32 y h hx2)
          generalize takeS x2 32 = X2 at HPK HPA HPT N2
          obtain ⟨a2, x3, q2⟩ := X2
          simp only at HPK HPA HPT N2
          have HOB : Hid (∀ k', Value.ownBlock (.slice B j k) = some k' → w.heap.size + 3 ≤ k' ∧ k' < wr.heap.size) := Lib.hid fun k' hk => World.ownsRow.lt HPO.out k' hk
          go_wp2_with fail
          refine (N0.out true wr HQDS.out.rd).mono ?_
          rintro e y1 hrd
          have HD1 := Lib.hid (HQDS.out.read hrd)
          obtain ⟨_, _, _, rfl, -, -, -, hbut⟩ := hrd
          have HI1 := Lib.hid (but_up hbut HIR.out HNL.out (by omega)); have HP1 : Hid (POwn y1 (w.heap.size + 3) (.slice B j k) l0) := Lib.hid (own_but HPO.out hbut (by omega)); have HZ1 := Lib.hid hbut.size
          clear hbut hc9 hcd HQDS HIR HPO
          go_wp2_with fail
          refine (N1.out (true && q0) y1 HD1.out.rd).mono ?_
          rintro e y2 hrd
          have HD2 := Lib.hid (HD1.out.read hrd)
          obtain ⟨_, _, _, rfl, -, -, -, hbut⟩ := hrd
          have HI2 := Lib.hid (but_up hbut HI1.out HNL.out (by omega)); have HP2 : Hid (POwn y2 (w.heap.size + 3) (.slice B j k) l0) := Lib.hid (own_but HP1.out hbut (by omega)); have HZ2 := Lib.hid (Nat.le_trans HZ1.out hbut.size)
          clear hbut HD1 HI1 HP1
          go_wp2_with fail
          refine (N2.out (true && q0 && q1) y2 HD2.out.rd).mono ?_
          rintro e y3 hrd
          have HD3 := Lib.hid (HD2.out.read hrd)
          obtain ⟨A3, m3, c3, rfl, hD3, hr3, hn3, hbut⟩ := hrd
          have HI3 := Lib.hid (but_up hbut HI2.out HNL.out (by omega)); have HP3 : Hid (POwn y3 (w.heap.size + 3) (.slice B j k) l0) := Lib.hid (own_but HP2.out hbut (by omega)); have HZ3 := Lib.hid (Nat.le_trans HZ2.out hbut.size)
          have HA3 : Hid (∀ ad, A3 = some ad → Value.ownBlock (.slice B j k) ≠ some ad.block) := Lib.hid fun ad hA he => by have h1 := (HOB.out _ he).2; have h2 := (hn3 ad hA).1; have h3 := HZ2.out; omega
          have HA3G : Hid (∀ ad, A3 = some ad → w.heap.size + 2 < ad.block) := Lib.hid fun ad hA => Nat.lt_of_lt_of_le HD2.out.lp (hn3 ad hA).1
          have HA3L : Hid (∀ ad, A3 = some ad → ad.block < y3.heap.size) := Lib.hid fun ad hA => (hn3 ad hA).2
          have HDR := Lib.hid hD3; have HBR := Lib.hid hr3
          clear hbut hD3 hr3 hn3 HD2 HI2 HP2
          have hlj : l0.length = j := HLN.out
          have hb2 : Below y3.heap.size y3 ((y3.alloc (.cells #[.int .i64 a0, .int .i64 a1, .string a2] 44)).alloc (.cells #[.int .i64 a0, .int .i64 a1, .string a2] 44)) := (one_new y3 _).alloc (by simp) _
          have hrx : Row ((y3.alloc (.cells #[.int .i64 a0, .int .i64 a1, .string a2] 44)).alloc (.cells #[.int .i64 a0, .int .i64 a1, .string a2] 44)) (some ⟨(y3.alloc (.cells #[.int .i64 a0, .int .i64 a1, .string a2] 44)).heap.size, 0, none⟩) 1 1 3 (pinC ⟨a0, a1, a2⟩) := Row.of_block (cs := #[.int .i64 a0, .int .i64 a1, .string a2]) (heap_alloc_new _ _) rfl
          rw [World.size_alloc] at hrx
          have HRX := Lib.hid hrx
          have HPX : Hid (POwn ((y3.alloc (.cells #[.int .i64 a0, .int .i64 a1, .string a2] 44)).alloc (.cells #[.int .i64 a0, .int .i64 a1, .string a2] 44)) (w.heap.size + 3) (.slice B j k) l0) := Lib.hid (World.ownsRow.alloc (World.ownsRow.alloc HP3.out _) _)
          have HDX := Lib.hid (HD3.out.later hb2); have HIX := Lib.hid (HI3.out.later hb2)
          have HDRX := Lib.hid ((hb2.block _ (by have := HD3.out.lp; omega)).trans HDR.out); have HBRX := Lib.hid (BRow.later HBR.out hb2)
          have HSX : Hid (((y3.alloc (.cells #[.int .i64 a0, .int .i64 a1, .string a2] 44)).alloc (.cells #[.int .i64 a0, .int .i64 a1, .string a2] 44)).heap.size = y3.heap.size + 2) := Lib.hid (by simp)
          have hc9 : (y3.alloc (.cells #[.int .i64 a0, .int .i64 a1, .string a2] 44)).cell? ⟨w.heap.size + 2, 9, none⟩ = some (.slice B j k) := by rw [(HD3.out.later (one_new y3 (.cells #[.int .i64 a0, .int .i64 a1, .string a2] 44))).cells]; rfl
          have HL3 : Hid (w.heap.size + 2 < y3.heap.size) := Lib.hid HD3.out.lp
          clear hb2 hrx HD3 HI3 HP3 HDR HBR
          go_wp2_with (at_builtin; go_must (refine wpList_app2 _ rfl (.tmp 90) (.tmp 92) 23 23 44 rfl (w.heap.size + 3) Tryd.underlying23 pin_inf rfl (.slice B j k) _ _ HPX.out rfl _ 1 (pinC ⟨a0, a1, a2⟩) (Row.src HRX.out Tryd.underlying23 (pinsC_one' _)) rfl (by unfold maxLen; omega) (by omega) (by rw [HSX.out]; have := HL3.out; omega) ?_); intro v4 w4 ho4 hb4 hk4 hf4; obtain ⟨B', k', hv4, hrow4⟩ := Row.of_own ho4; subst hv4; rw [hlj] at ho4 hf4 ⊢; have HD4 := Lib.hid (HDX.out.grown HDRX.out HBRX.out hb4 hk4 HA3.out); have HO4 := Lib.hid ho4; have HK4 := Lib.hid hk4; have HF4 := Lib.hid hf4; have HB4 := Lib.hid hb4; have hc9 : w4.cell? ⟨w.heap.size + 2, 9, none⟩ = some (.slice B j k) := (by rw [HD4.out.cells]; rfl); have hz9 : w4.frozen? ⟨w.heap.size + 2, 9, none⟩ = false := HD4.out.froz 9; clear ho4 hb4 hk4 hf4 hrow4)
          have hss := HSX.out
          have hl3 := HL3.out
          refine ⟨⟨j + 1, by omega, by omega, by go_num, B', k', (true && q0 && q1 && q2), A3, m3, c3, Lib.hid ⟨?_, ?_, ?_, ?_, ?_, ?_, ?_, ?_⟩⟩, by simp [intOf]; omega⟩
          · rw [HSS.out, HPT.out]; exact HD4.out.setp rfl 9 (.slice B' (j + 1) k')
          · rw [HSS.out, HPK.out]; have h := HOJ.out; simp only [← Bool.and_assoc]; rw [← h]
          · rw [HSS.out, HPA.out]; unfold POwn; rw [pinsC_app, List.length_append, pinsC_single, hlj]
            exact own_set HO4.out (fun he => by have := (World.ownsRow.lt HO4.out _ he).1; omega) 9 _
          · exact Row.keep HIX.out fun ad hA h0 hlt => (Below.heap_setCell _ _ _ _ (by have := HNL.out ad hA; show ad.block ≠ w.heap.size + 2; omega)).trans (HK4.out _ hlt (HAL.out ad hA h0))
          · intro ad hA h0 he
            rcases HF4.out with h | ⟨g, hg, h⟩
            · exact HAL.out ad hA h0 (h.symm.trans he)
            · rw [h] at he; injection he with he
              have := Row.lt HIX.out (by omega) ad hA h0
              omega
          · exact (Below.heap_setCell _ _ _ _ (by show w.heap.size + 1 ≠ w.heap.size + 2; omega)).trans ((HB4.out.block _ (by omega)).trans HDRX.out)
          · rw [HSS.out, HPT.out]
            exact Row.keep HBRX.out fun ad hA _ hlt => (Below.heap_setCell _ _ _ _ (by have := HA3G.out ad hA; show ad.block ≠ w.heap.size + 2; omega)).trans (HK4.out _ hlt (HA3.out ad hA))
          · intro ad hA he
            rcases HF4.out with h | ⟨g, hg, h⟩
            · exact HA3.out ad hA (h.symm.trans he)
            · rw [h] at he; injection he with he
              have := HA3L.out ad hA
              omega
      · have HDw := Lib.hid HQ.out.1; have HOJ := Lib.hid HQ.out.2.1; have HIR := Lib.hid HQ.out.2.2.2.1
        have HPR : Hid (PRow wr B j k (pinsL j ry).1) := Lib.hid (own_prow HQ.out.2.2.1)
        have HNB : Hid (∀ ad, B = some ad → w.heap.size + 2 < ad.block) := Lib.hid fun ad hA => by subst hA; exact (World.ownsRow.lt HQ.out.2.2.1 _ rfl).1
        clear HQ HDb HIb HRb HXb
        have hlr : (pinsL j ry).2.1.length ≤ 900000 := Nat.le_trans (pinsL_le ry j) hly
        have HSPj := Lib.hid (HSP.out (pinsL j ry) (takeS (pinsL j ry).2.1 4096) (takeI (takeS (pinsL j ry).2.1 4096).2.1) (takeS (takeI (takeS (pinsL j ry).2.1 4096).2.1).2.1 32) j _ rfl rfl rfl rfl rfl hjn hj64 (.inl (by omega)))
        have NB := Lib.hid (fun ok y h => refRdText (w.heap.size + 1) (pinsL j ry).2.1 ok 4096 y h hlr)
        have hlb := Nat.le_trans (takeS_le (pinsL j ry).2.1 4096) hlr
        have hsb := takeS_size (pinsL j ry).2.1 4096 (by omega)
        have hpb := pinsL_size ry j
        have hpl := pinsL_len ry j
        clear HSP
        generalize (pinsL j ry).2.1 = rj at HSPj NB hlb hsb HDw
        generalize (pinsL j ry).2.2 = kj at HSPj HOJ
        generalize (pinsL j ry).1 = lj at HSPj HPR hpb hpl
        generalize takeS rj 4096 = Xb at HSPj NB hlb hsb
        obtain ⟨vb, rb, kb⟩ := Xb
        simp only at HSPj NB hlb hsb
        have NK := Lib.hid (fun ok y h => refRdInt (w.heap.size + 1) rb ok y h hlb)
        have hlk := Nat.le_trans (takeI_le rb) hlb
        generalize takeI rb = Xk at HSPj NK hlk
        obtain ⟨vk, rk, kk⟩ := Xk
        simp only at HSPj NK hlk
        have ND := Lib.hid (fun ok y h => refRdText (w.heap.size + 1) rk ok 32 y h hlk)
        have hsd := takeS_size rk 32 (by omega)
        generalize takeS rk 32 = Xd at HSPj ND hsd
        obtain ⟨vd, rd13, kd⟩ := Xd
        simp only at HSPj ND hsd
        go_wp2_with fail
        refine (NB.out okj wr HDw.out.rd).mono ?_
        rintro e z1 hrd
        have HDz1 := Lib.hid (HDw.out.read hrd)
        obtain ⟨_, _, _, rfl, -, -, -, hbut⟩ := hrd
        have HI1 := Lib.hid (but_up hbut HIR.out HNL.out (by omega)); have HP1 := Lib.hid (but_up hbut HPR.out HNB.out (by omega)); clear hbut HDw HIR HPR
        have hc10 : z1.cell? ⟨w.heap.size + 2, 10, none⟩ = some (.string ⟨#[]⟩) := by rw [HDz1.out.cells]; rfl
        have hz10 : z1.frozen? ⟨w.heap.size + 2, 10, none⟩ = false := HDz1.out.froz 10
        go_wp2_with fail
        have HDz2 : Hid (DS w (z1.setCell ⟨w.heap.size + 2, 10, none⟩ (.string vb)) #[.int .i64 v0, .int .i64 v1, .string v2, .int .i64 v3, .int .i64 v4, .int .i64 v5, .int .i64 v6, .int .i64 v7, .slice Al nl cl, .slice B j k, .string vb, .int .i64 0, .string ⟨#[]⟩] rb (okj && kb)) := Lib.hid (HDz1.out.setp rfl 10 (.string vb))
        have HI2 := Lib.hid (set_up HI1.out HNL.out 10 (.string vb)); have HP2 := Lib.hid (set_up HP1.out HNB.out 10 (.string vb))
        clear HDz1 HI1 HP1 hc10 hz10
        generalize z1.setCell ⟨w.heap.size + 2, 10, none⟩ (.string vb) = z2 at HDz2 HI2 HP2 ⊢
        refine (NK.out (okj && kb) z2 HDz2.out.rd).mono ?_
        rintro e z3 hrd
        have HDz3 := Lib.hid (HDz2.out.read hrd)
        obtain ⟨_, _, _, rfl, -, -, -, hbut⟩ := hrd
        have HI3 := Lib.hid (but_up hbut HI2.out HNL.out (by omega)); have HP3 := Lib.hid (but_up hbut HP2.out HNB.out (by omega)); clear hbut HDz2 HI2 HP2
        go_wp2_with fail
        refine (ND.out (okj && kb && kk) z3 HDz3.out.rd).mono ?_
        rintro e z4 hrd
        have HDz4 := Lib.hid (HDz3.out.read hrd)
        obtain ⟨_, _, _, rfl, -, -, -, hbut⟩ := hrd
        have HI4 := Lib.hid (but_up hbut HI3.out HNL.out (by omega)); have HP4 := Lib.hid (but_up hbut HP3.out HNB.out (by omega)); clear hbut HDz3 HI3 HP3
        obtain ⟨okF, hoF⟩ : ∃ o : Bool, o = (okj && kb && kk && kd) := ⟨_, rfl⟩
        have HDz5 : Hid (DS w ((z4.setCell ⟨w.heap.size + 2, 11, none⟩ (.int .i64 vk)).setCell ⟨w.heap.size + 2, 12, none⟩ (.string vd)) #[.int .i64 v0, .int .i64 v1, .string v2, .int .i64 v3, .int .i64 v4, .int .i64 v5, .int .i64 v6, .int .i64 v7, .slice Al nl cl, .slice B j k, .string vb, .int .i64 vk, .string vd] rd13 okF) := by rw [hoF]; exact Lib.hid ((HDz4.out.setp rfl 11 (.int .i64 vk)).setp rfl 12 (.string vd))
        have HI5 := Lib.hid (set_up (set_up HI4.out HNL.out 11 (.int .i64 vk)) HNL.out 12 (.string vd)); have HP5 := Lib.hid (set_up (set_up HP4.out HNB.out 11 (.int .i64 vk)) HNB.out 12 (.string vd))
        have HOF : Hid (okF = (k0 && k1 && k2 && k3 && k4 && k5 && k6 && k7 && k8 && ky && kj && kb && kk && kd)) := by unfold Hid; rw [hoF, HOJ.out]
        rw [← HOF.out] at HSPj
        clear hoF HOF HOJ
        obtain ⟨hc0, hc1, hc2, hc3, hc4, hc5, hc6, hc7, hc8, hc9', hc10, hc11, hc12⟩ := stm_cells (A := Al) (n := nl) (c := cl) (B := B) (m := j) (k := k) (s := ⟨v0, v1, v2, v3, v4, v5, v6, v7, v8, lj, vb, 0, ⟨#[]⟩⟩) HDz4.out.hp
        have hz11 : z4.frozen? ⟨w.heap.size + 2, 11, none⟩ = false := HDz4.out.froz 11
        have hz12 : z4.frozen? ⟨w.heap.size + 2, 12, none⟩ = false := HDz4.out.froz 12
        obtain ⟨Af, mf, cf, hRf, hrf⟩ := HDz5.out.rd
        have hlf : rd13.length = mf := hrf.len
        have hcf0 : ((z4.setCell ⟨w.heap.size + 2, 11, none⟩ (.int .i64 vk)).setCell ⟨w.heap.size + 2, 12, none⟩ (.string vd)).cell? ⟨w.heap.size + 1, 0, none⟩ = some (.slice Af mf cf) := by rw [cell_of_row _ _ _ _ _ _ hRf]; rfl
        have hcf1 : ((z4.setCell ⟨w.heap.size + 2, 11, none⟩ (.int .i64 vk)).setCell ⟨w.heap.size + 2, 12, none⟩ (.string vd)).cell? ⟨w.heap.size + 1, 1, none⟩ = some (.bool okF) := by rw [cell_of_row _ _ _ _ _ _ hRf]; rfl
        clear hRf hrf HDz4 HI4 HP4
        have HZ1 := Lib.hid hcf0; have HZ2 := Lib.hid hcf1
        have hsm : Small ⟨v0, v1, v2, v3, v4, v5, v6, v7, v8, lj, vb, vk, vd⟩ := ⟨by simp only; omega, by simp only; omega, by simp only; omega, by simp only; omega, by simp only; omega, by simp only; omega⟩
        have HSM := Lib.hid hsm
        have HCK := Lib.hid (refCheck_any ⟨v0, v1, v2, v3, v4, v5, v6, v7, v8, lj, vb, vk, vd⟩ Al nl cl B j k ((z4.setCell ⟨w.heap.size + 2, 11, none⟩ (.int .i64 vk)).setCell ⟨w.heap.size + 2, 12, none⟩ (.string vd)) HI5.out HP5.out (by omega) (by omega) (by simp only; omega))
        have HSL : Hid (∀ y, Below ((z4.setCell ⟨w.heap.size + 2, 11, none⟩ (.int .i64 vk)).setCell ⟨w.heap.size + 2, 12, none⟩ (.string vd)).heap.size ((z4.setCell ⟨w.heap.size + 2, 11, none⟩ (.int .i64 vk)).setCell ⟨w.heap.size + 2, 12, none⟩ (.string vd)) y → Calls Tryd.prog 32 #[stmV ⟨v0, v1, v2, v3, v4, v5, v6, v7, v8, lj, vb, vk, vd⟩ Al nl cl B j k] y (SaysL (.bool (sealedB ⟨v0, v1, v2, v3, v4, v5, v6, v7, v8, lj, vb, vk, vd⟩)) y)) := Lib.hid fun y h => refSealed_any ⟨v0, v1, v2, v3, v4, v5, v6, v7, v8, lj, vb, vk, vd⟩ Al nl cl B j k y (IRow.later HI5.out h) (PRow.later HP5.out h) HSM.out
        have HEN : Hid (∀ y, Below ((z4.setCell ⟨w.heap.size + 2, 11, none⟩ (.int .i64 vk)).setCell ⟨w.heap.size + 2, 12, none⟩ (.string vd)).heap.size ((z4.setCell ⟨w.heap.size + 2, 11, none⟩ (.int .i64 vk)).setCell ⟨w.heap.size + 2, 12, none⟩ (.string vd)) y → Calls Tryd.prog 19 #[stmV ⟨v0, v1, v2, v3, v4, v5, v6, v7, v8, lj, vb, vk, vd⟩ Al nl cl B j k] y (EncS y ⟨v0, v1, v2, v3, v4, v5, v6, v7, v8, lj, vb, vk, vd⟩)) := Lib.hid fun y h => refEncode_any ⟨v0, v1, v2, v3, v4, v5, v6, v7, v8, lj, vb, vk, vd⟩ Al nl cl B j k y (IRow.later HI5.out h) (PRow.later HP5.out h) HSM.out
        have HEB : Hid (checkV ⟨v0, v1, v2, v3, v4, v5, v6, v7, v8, lj, vb, vk, vd⟩ = 0 → sealedB ⟨v0, v1, v2, v3, v4, v5, v6, v7, v8, lj, vb, vk, vd⟩ = true → encB ⟨v0, v1, v2, v3, v4, v5, v6, v7, v8, lj, vb, vk, vd⟩ = wholeB ⟨v0, v1, v2, v3, v4, v5, v6, v7, v8, lj, vb, vk, vd⟩) := Lib.hid fun h1 h2 => by unfold encB; rw [if_pos h1, if_pos h2]
        unfold stmV at HCK HSL HEN
        simp only at HCK HSL HEN
        generalize checkV ⟨v0, v1, v2, v3, v4, v5, v6, v7, v8, lj, vb, vk, vd⟩ = cv at HSPj HCK HEB
        generalize sealedB ⟨v0, v1, v2, v3, v4, v5, v6, v7, v8, lj, vb, vk, vd⟩ = sv at HSPj HSL HEB
        generalize wholeB ⟨v0, v1, v2, v3, v4, v5, v6, v7, v8, lj, vb, vk, vd⟩ = wb at HSPj HEB
        clear hsm
        cases okF
        · have HV := Lib.hid (HSPj.out.1 rfl)
          go_wp2_with (refine wpList_store_row rfl 27 (.tmp 2) (.tmp 127) rfl w.heap.size zeroA rfl rfl 27 _ HDz5.out.hq (by kernel_rfl) rfl (by simp [Value.oneCell', zeroA]) ?_)
          refine bodyPost_ret (results_rdec rfl rfl (setRow_heap _ _ _ zeroA _ _ HDz5.out.hq) rfl) rfl ⟨none, 0, 0, none, 0, 0, by rw [HDS.out, HDE.out, HV.out]; rfl, by rw [HDS.out, HV.out]; exact Row.nilRow _ _, by rw [HDS.out, HV.out]; exact Row.nilRow _ _, below_setRow HDz5.out.hb (Nat.le_refl _) _⟩
        by_cases h0 : mf = 0
        rotate_left
        · have e0 : 0 < mf := by omega
          have HV := Lib.hid ((HSPj.out.2 rfl).1 (by rw [hlf]; exact h0))
          go_wp2_with (refine wpList_store_row rfl 27 (.tmp 2) (.tmp 127) rfl w.heap.size zeroA rfl rfl 27 _ HDz5.out.hq (by kernel_rfl) rfl (by simp [Value.oneCell', zeroA]) ?_)
          refine bodyPost_ret (results_rdec rfl rfl (setRow_heap _ _ _ zeroA _ _ HDz5.out.hq) rfl) rfl ⟨none, 0, 0, none, 0, 0, by rw [HDS.out, HDE.out, HV.out]; rfl, by rw [HDS.out, HV.out]; exact Row.nilRow _ _, by rw [HDS.out, HV.out]; exact Row.nilRow _ _, below_setRow HDz5.out.hb (Nat.le_refl _) _⟩
        have HSP2 := Lib.hid ((HSPj.out.2 rfl).2 (by rw [hlf]; exact h0))
        clear HSPj
        go_wp2_with fail
        refine HCK.out.mono ?_
        clear hc0 hc1 hc2 hc3 hc4 hc5 hc6 hc7 hc8 hc9' hc10 hc11 hc12 hz11 hz12
        generalize ((z4.setCell ⟨w.heap.size + 2, 11, none⟩ (.int .i64 vk)).setCell ⟨w.heap.size + 2, 12, none⟩ (.string vd)) = z5 at HDz5 HI5 HP5 HSL HEN HZ1 HZ2 ⊢
        rintro e z6 ⟨rfl, hb⟩
        have HD6 := Lib.hid (HDz5.out.later hb); have HI6 := Lib.hid (IRow.later HI5.out hb); have HP6 := Lib.hid (PRow.later HP5.out hb); have HN6 := Lib.hid hb
        clear hb HI5 HP5 HCK HZ1 HZ2
        by_cases hc0 : cv = 0
        rotate_left
        · have g1 : (cv == 0) = false := by simpa using hc0
          have HV := Lib.hid (HSP2.out.1 hc0)
          go_wp2_with (refine wpList_store_row rfl 27 (.tmp 2) (.tmp 127) rfl w.heap.size zeroA rfl rfl 27 _ HD6.out.hq (by kernel_rfl) rfl (by simp [Value.oneCell', zeroA]) ?_)
          refine bodyPost_ret (results_rdec rfl rfl (setRow_heap _ _ _ zeroA _ _ HD6.out.hq) rfl) rfl ⟨none, 0, 0, none, 0, 0, by rw [HDS.out, HDE.out, HV.out]; rfl, by rw [HDS.out, HV.out]; exact Row.nilRow _ _, by rw [HDS.out, HV.out]; exact Row.nilRow _ _, below_setRow HD6.out.hb (Nat.le_refl _) _⟩
        subst hc0
        have HSP3 := Lib.hid (HSP2.out.2 rfl); clear HSP2
        obtain ⟨hc0, hc1, hc2, hc3, hc4, hc5, hc6, hc7, hc8, hc9, hc10, hc11, hc12⟩ := stm_cells (A := Al) (n := nl) (c := cl) (B := B) (m := j) (k := k) (s := ⟨v0, v1, v2, v3, v4, v5, v6, v7, v8, lj, vb, vk, vd⟩) HD6.out.hp
        go_wp2_with fail
        refine (HSL.out z6 HN6.out).mono ?_
        rintro e z7 ⟨rfl, hb⟩
        have HD7 := Lib.hid (HD6.out.later hb); have HI7 := Lib.hid (IRow.later HI6.out hb); have HP7 := Lib.hid (PRow.later HP6.out hb); have HN7 := Lib.hid (HN6.out.trans (hb.mono HN6.out.size))
        clear hb HI6 HP6 HSL HN6 HD6 hc0 hc1 hc2 hc3 hc4 hc5 hc6 hc7 hc8 hc9 hc10 hc11 hc12
        cases sv
        · have HV := Lib.hid (HSP3.out.1 rfl)
          go_wp2_with (refine wpList_store_row rfl 27 (.tmp 2) (.tmp 127) rfl w.heap.size zeroA rfl rfl 27 _ HD7.out.hq (by kernel_rfl) rfl (by simp [Value.oneCell', zeroA]) ?_)
          refine bodyPost_ret (results_rdec rfl rfl (setRow_heap _ _ _ zeroA _ _ HD7.out.hq) rfl) rfl ⟨none, 0, 0, none, 0, 0, by rw [HDS.out, HDE.out, HV.out]; rfl, by rw [HDS.out, HV.out]; exact Row.nilRow _ _, by rw [HDS.out, HV.out]; exact Row.nilRow _ _, below_setRow HD7.out.hb (Nat.le_refl _) _⟩
        have HSP4 := Lib.hid (HSP3.out.2 rfl); clear HSP3
        obtain ⟨hc0, hc1, hc2, hc3, hc4, hc5, hc6, hc7, hc8, hc9, hc10, hc11, hc12⟩ := stm_cells (A := Al) (n := nl) (c := cl) (B := B) (m := j) (k := k) (s := ⟨v0, v1, v2, v3, v4, v5, v6, v7, v8, lj, vb, vk, vd⟩) HD7.out.hp
        go_wp2_with fail
        refine (HEN.out z7 HN7.out).mono ?_
        rintro e z8 ⟨A8, m8, c8, rfl, hr8, hb⟩
        have HD8 := Lib.hid (HD7.out.later hb); have HI8 := Lib.hid (IRow.later HI7.out hb); have HP8 := Lib.hid (PRow.later HP7.out hb)
        rw [HEB.out (by first | rfl | trivial) (by first | rfl | trivial)] at hr8
        obtain ⟨t1, ht1⟩ : ∃ t, t = strOf wb := ⟨_, rfl⟩
        obtain ⟨t2, ht2⟩ : ∃ t, t = strOf us := ⟨_, rfl⟩
        have hcv1 : (convert 28 9 (.slice A8 m8 c8)).run Tryd.prog z8 = .ok (.string t1) z8 := by rw [ht1]; exact run_conv_row hr8 Tryd.underlying28 Tryd.underlying5 Tryd.underlying9
        have hcv2 : (convert 28 9 (.slice A n c)).run Tryd.prog z8 = .ok (.string t2) z8 := by rw [ht2]; exact run_conv_row (Row.later HUS.out HD8.out.hb) Tryd.underlying28 Tryd.underlying5 Tryd.underlying9
        clear hb hr8 HI7 HP7 HEN HN7 HD7 hc0 hc1 hc2 hc3 hc4 hc5 hc6 hc7 hc8 hc9 hc10 hc11 hc12 HEB
        by_cases hw : wb = us
        · have hd := HSP4.out.1 hw
          have HV := Lib.hid hd.1; have HVS := Lib.hid hd.2
          have ht : t1 = t2 := by rw [ht1, ht2, hw]
          have hl : t1.toList = t2.toList := by rw [ht]
          have hl2 : (t1.toList != t2.toList) = false := by rw [hl]; simp
          obtain ⟨hc0, hc1, hc2, hc3, hc4, hc5, hc6, hc7, hc8, hc9, hc10, hc11, hc12⟩ := stm_cells (A := Al) (n := nl) (c := cl) (B := B) (m := j) (k := k) (s := ⟨v0, v1, v2, v3, v4, v5, v6, v7, v8, lj, vb, vk, vd⟩) HD8.out.hp
          clear ht1 ht2 hd ht
          go_wp2_with (refine wpList_store_row rfl 27 (.tmp 2) (.tmp 139) rfl w.heap.size #[.int .i64 v0, .int .i64 v1, .string v2, .int .i64 v3, .int .i64 v4, .int .i64 v5, .int .i64 v6, .int .i64 v7, .slice Al nl cl, .slice B j k, .string vb, .int .i64 vk, .string vd] rfl rfl 27 _ HD8.out.hq (by kernel_rfl) rfl (by simp [Value.oneCell']) ?_)
          have hds : DS0 = ⟨v0, v1, v2, v3, v4, v5, v6, v7, v8, lj, vb, vk, vd⟩ := by rw [HDS.out, HV.out, if_pos rfl]; have := HVS.out; unfold decS at this; rw [HV.out, if_pos rfl] at this; exact this
          refine bodyPost_ret (results_rdec rfl rfl (setRow_heap _ _ _ #[.int .i64 v0, .int .i64 v1, .string v2, .int .i64 v3, .int .i64 v4, .int .i64 v5, .int .i64 v6, .int .i64 v7, .slice Al nl cl, .slice B j k, .string vb, .int .i64 vk, .string vd] _ _ HD8.out.hq) rfl) rfl ⟨Al, nl, cl, B, j, k, by rw [hds, HDE.out, HV.out]; rfl, ?_, ?_, below_setRow HD8.out.hb (Nat.le_refl _) _⟩
          · rw [hds]; exact Row.keep HI8.out fun ad hA _ _ => setRow_other _ _ _ _ (by have := HNL.out ad hA; omega)
          · rw [hds]; exact Row.keep HP8.out fun ad hA _ _ => setRow_other _ _ _ _ (by have := HNB.out ad hA; omega)
        · have HV := Lib.hid (HSP4.out.2 hw)
          have hl : ¬ t1.toList = t2.toList := fun h => hw (strOf_inj (by rw [← ht1, ← ht2]; exact (toList_iff _ _).1 h))
          have hl2 : (t1.toList == t2.toList) = false := by simpa using hl
          clear ht1 ht2 hw
          go_wp2_with (refine wpList_store_row rfl 27 (.tmp 2) (.tmp 138) rfl w.heap.size zeroA rfl rfl 27 _ HD8.out.hq (by kernel_rfl) rfl (by simp [Value.oneCell', zeroA]) ?_)
          refine bodyPost_ret (results_rdec rfl rfl (setRow_heap _ _ _ zeroA _ _ HD8.out.hq) rfl) rfl ⟨none, 0, 0, none, 0, 0, by rw [HDS.out, HDE.out, HV.out]; rfl, by rw [HDS.out, HV.out]; exact Row.nilRow _ _, by rw [HDS.out, HV.out]; exact Row.nilRow _ _, below_setRow HD8.out.hb (Nat.le_refl _) _⟩
end Go.Proofs.YtnokhjpileamaaaDoor
