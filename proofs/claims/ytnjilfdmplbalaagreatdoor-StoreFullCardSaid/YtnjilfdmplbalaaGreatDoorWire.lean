/- The walks of package wire: what appends. -/
import Derived.Test.YtnjilfdmplbalaaGreatDoorRows
import Derived.Test.YtnjilfdmplbalaaGreatDoorRow
import Derived.Test.YtnjilfdmplbalaaGreatDoorInfo
import Derived.Outline
import Derived.Lib.Hide
namespace Go.Proofs.YtnjilfdmplbalaaGreatDoor
open Go.RowKit
/-- A slice that reads as bytes. -/
def BRow (w : World) (A : Option Addr) (n c : Nat) (us : List UInt8) : Prop := Row w A n c 1 (bytesV us)
/-- A slice that reads as numbers. -/
def IRow (w : World) (A : Option Addr) (n c : Nat) (l : List Int) : Prop := Row w A n c 1 (intsV l)
theorem BRow.len {w : World} {A : Option Addr} {n c : Nat} {us : List UInt8} (h : BRow w A n c us) : us.length = n := by
  have := Row.len h; rw [bytesV_len] at this; simpa using this
theorem IRow.len {w : World} {A : Option Addr} {n c : Nat} {l : List Int} (h : IRow w A n c l) : l.length = n := by
  have := Row.len h; rw [intsV_len] at this; simpa using this
theorem BRow.later {w w' : World} {A : Option Addr} {n c : Nat} {us : List UInt8} (h : BRow w A n c us) (hb : Later w w') : BRow w' A n c us := Row.later h hb
theorem IRow.later {w w' : World} {A : Option Addr} {n c : Nat} {l : List Int} (h : IRow w A n c l) (hb : Later w w') : IRow w' A n c l := Row.later h hb
/-- Bytes in a slice that the call itself has made. -/
def BOwn (w : World) (B : Nat) (v : Value) (us : List UInt8) : Prop := w.ownsRow B 5 1 v us.length (bytesV us)
theorem BOwn.row {w : World} {B : Nat} {v : Value} {us : List UInt8} (h : BOwn w B v us) : ∃ A c, v = .slice A us.length c ∧ BRow w A us.length c us := Row.of_own h
set_option maxHeartbeats 400000 in
theorem withRoom_any (A : Option Addr) (n c : Nat) (us : List UInt8) (more : Nat) (w : World) (hr : BRow w A n c us) (hm : n + more ≤ 1000000000) :
    Calls Tryz.prog 153 #[.slice A n c, .int .i64 more] w fun e w' => ∃ v', e = .returned v' ∧ BOwn w' w.heap.size v' us ∧ Below w.heap.size w w' := by
  have HR := Lib.hid hr; have HL := Lib.hid hr.len; clear hr
  go_enter Tryz.func153, Tryz.ntmps153
  go_wp2_with (first
    | (at_make; refine wpList_make _ rfl (.tmp 7) (.tmp 11) 85 5 rfl w.heap.size Tryz.underlying85 u8_info rfl n (n + more) rfl rfl rfl (by omega) (by omega) (by omega) (by unfold maxLen; omega) (Nat.le_refl _) ?_; intro w1 ho1 hb1; have HO1 := Lib.hid ho1; have HB1 := Lib.hid hb1; have HR1 := Lib.hid (Row.below HR.out hb1 (Nat.le_refl _)); clear ho1 hb1)
    | (refine wpList_copy_all (o := ⟨some 15, _, _, _, _, _⟩) _ rfl (.tmp 13) (.tmp 14) 85 85 5 5 rfl w.heap.size Tryz.underlying85 Tryz.underlying85 u8_size w.heap.size n (n + more) _ HO1.out rfl A c _ HR1.out (bytesV_one us) rfl ?_; intro w2 ho2 hb2; have HO2 := Lib.hid ho2; have HB2 := Lib.hid hb2; clear ho2 hb2))
  go_ret
  exact ⟨_, rfl, by unfold BOwn; rw [HL.out]; exact HO2.out, HB1.out.trans HB2.out⟩
set_option maxHeartbeats 400000 in
theorem appendNumber_any (B : Nat) (v : Value) (us : List UInt8) (x : Int) (w : World) (hown : BOwn w B v us) (hB : B ≤ w.heap.size) (hl : us.length ≤ 900000000) :
    Calls Tryz.prog 152 #[v, .int .i64 x] w fun e w' => ∃ v', e = .returned v' ∧ BOwn w' B v' (us ++ be8 x) ∧ Below B w w' := by
  have HOWN := Lib.hid hown; clear hown
  go_enter Tryz.func152, Tryz.ntmps152
  go_wp2
  go_loopw [0, 5] (fun v i wr => ∃ k : Nat, k ≤ 8 ∧ i = .int .i64 (56 - 8 * (k : Int)) ∧ Hid (BOwn wr B v (us ++ be8To x k) ∧ Below B w wr)) (fun _ i _ => (intOf i + 8).toNat)
  case atStart => exact ⟨0, by omega, by go_num, by simpa [be8To] using HOWN.out, Below.refl _ _⟩
  case round =>
    obtain ⟨k, hk, rfl, HI⟩ := hrel
    have hlen : (us ++ be8To x k).length + 1 ≤ 1000000000 := by rw [List.length_append, be8To_len]; omega
    have HLEN := Lib.hid hlen; clear hlen
    by_cases hlt : k < 8
    · have hsh := be8At_eq x k
      have h0 : (0 : Int) ≤ 56 - 8 * (k : Int) := by omega
      have hBr : B ≤ wr.heap.size := by have := HI.out.2.size; omega
      go_wp2_with (at_builtin; go_must (refine wpList_app_new wr rfl (.tmp 10) (.tmp 15) 85 5 rfl B Tryz.underlying85 u8_info rfl _ _ _ HI.out.1 rfl 1 #[.int .u8 (w8 (be8At x k))] rfl (by simp [Value.oneCell']) rfl rfl (by have := HLEN.out; unfold maxLen; omega) (by have := HLEN.out; omega) hBr ?_); intro v' w' hown' hb')
      exact ⟨⟨k + 1, by omega, by go_num, by rw [be8To_succ, ← List.append_assoc]; exact ⟨by unfold BOwn; rw [bytesV_app, List.length_append]; exact hown', HI.out.2.trans hb'⟩⟩, by simp [intOf]; omega⟩
    · go_wp2
      go_ret
      have hk8 : k = 8 := by omega
      subst hk8
      exact ⟨_, rfl, HI.out⟩
end Go.Proofs.YtnjilfdmplbalaaGreatDoor
