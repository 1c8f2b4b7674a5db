/- The walks of statement.Digest, rightSeal, Sealed, Seal. -/
import Derived.Test.YtnjilfdmplbalaaGreatDoorBytes
import Derived.Test.YtnjilfdmplbalaaGreatDoorSum
import Derived.Test.YtnjilfdmplbalaaGreatDoorSame
import Derived.Test.YtnjilfdmplbalaaGreatDoorStructs
namespace Go.Proofs.YtnjilfdmplbalaaGreatDoor
open Go.RowKit
theorem BRow.sliceAt {w : World} {A : Option Addr} {n c : Nat} {us : List UInt8} (h : BRow w A n c us) : SliceAt w A n c us := by
  refine ⟨h.len, Row.cap h, fun e => Row.nil h e, fun ad hA h0 => ?_⟩
  obtain ⟨b, off, e, hc⟩ := Row.some_ h ad hA (by have := Row.cap h; omega)
  refine ⟨b, off, e, fun i hi => ?_⟩
  rw [hc i (by omega), bytesV_get _ _ (by rw [h.len]; exact hi)]
theorem Rounds.later {w w' : World} (h : Rounds w) (hb : Below w.heap.size w w') : Rounds w' := h.below hb h.lt
/-- The digest of a statement. -/
def digS (s : Stm) : ByteArray := strOf (shaL (bodyB s) (bodyB s).length)
theorem digS_size (s : Stm) : (digS s).size = 32 := by unfold digS; rw [strOf_size]; exact Sha.textTo_len _ _
theorem body_len {s : Stm} (h : Small s) : (bodyB s).length ≤ 2000000 := by
  have h1 := h.prev; have h2 := h.list; have h3 := h.all; have h4 := h.body
  unfold bodyB
  simp only [List.length_append, listB_len, textS_len, intsB_len, List.length_cons, List.length_nil]
  omega
theorem sum_str (A : Option Addr) (n c : Nat) (us : List UInt8) (w : World) (h : BRow w A n c us) (hn : n ≤ 2000000) (hr : Rounds w) :
    Calls Tryz.prog 129 #[.slice A n c] w (SaysL (.string (strOf (shaL us n))) w) := sum_any A n c us w h.sliceAt (by omega) hr
set_option maxRecDepth 100000 in
set_option maxHeartbeats 1000000 in
theorem digest_any (s : Stm) (A : Option Addr) (n c : Nat) (B : Option Addr) (m k : Nat) (w : World) (hl : IRow w A n c s.list) (hp : PRow w B m k s.pins) (hs : Small s) (hr : Rounds w) :
    Calls Tryz.prog 107 #[stmV s A n c B m k] w (SaysL (.string (digS s)) w) := by
  have HBY : Hid (∀ w', Below w.heap.size w w' → Calls Tryz.prog 130 #[stmV s A n c B m k] w' (GivesO w' (bodyB s))) := Lib.hid fun w' h => bytes_own s A n c B m k w' (hl.later h) (hp.later h) hs
  have HR := Lib.hid hr; have HLB := Lib.hid (body_len hs)
  have HD : Hid (digS s = strOf (shaL (bodyB s) (bodyB s).length)) := Lib.hid rfl
  clear hl hp hs hr
  generalize digS s = D at HD ⊢
  generalize bodyB s = R at HD HLB HBY
  obtain ⟨author, number, prev, time, kind, a, b, cc, list, pins, body, key, dig⟩ := s
  unfold stmV at HBY ⊢
  go_enter Tryz.func107, Tryz.ntmps107
  go_wp2_with fail
  refine (HBY.out _ (one_new _ _)).mono ?_
  rintro e w1 ⟨v1, rfl, ho, hb⟩
  obtain ⟨A1, c1, hv, hr1⟩ := ho.row
  have HB1 := Lib.hid ((one_new w _).trans (hb.mono (by simp)))
  have HR1 := Lib.hid hr1; subst hv; clear ho hb hr1 HBY
  have hlen := HLB.out
  go_wp2_with fail
  refine (sum_str A1 _ c1 R w1 HR1.out (by omega) (HR.out.later HB1.out)).mono ?_
  rintro e w2 ⟨rfl, hb2⟩
  go_wp2
  go_ret
  exact ⟨by rw [HD.out]; rfl, HB1.out.trans (hb2.mono HB1.out.size)⟩
/-- The seal that a statement has to have, as a value. -/
def sealV (x : Int) (d : ByteArray) : Value := .agg #[.int .i64 x, .string d]
set_option maxRecDepth 100000 in
set_option maxHeartbeats 1000000 in
theorem rightSeal_any (s : Stm) (A : Option Addr) (n c : Nat) (B : Option Addr) (m k : Nat) (w : World) (hl : IRow w A n c s.list) (hp : PRow w B m k s.pins) (hs : Small s) (hr : Rounds w) :
    Calls Tryz.prog 78 #[stmV s A n c B m k] w (SaysL (sealV s.author (digS s)) w) := by
  have HD : Hid (∀ w', Below w.heap.size w w' → Calls Tryz.prog 107 #[stmV s A n c B m k] w' (SaysL (.string (digS s)) w')) := Lib.hid fun w' h => digest_any s A n c B m k w' (hl.later h) (hp.later h) hs (hr.later h)
  clear hl hp hs hr
  generalize digS s = D at HD ⊢
  obtain ⟨author, number, prev, time, kind, a, b, cc, list, pins, body, key, dig⟩ := s
  unfold stmV sealV at *
  obtain ⟨G, hG⟩ : ∃ G, G = w.heap.size + 1 := ⟨_, rfl⟩
  have HGG := Lib.hid hG; clear hG
  go_enter Tryz.func78, Tryz.ntmps78
  go_wp2_with fail
  refine wp_region_grow (by kernel_rfl) (Below G) (Below.refl G) (fun _ _ _ => Below.trans) [] [([0, 1, 2], 3), ([], 4), ([], 5)] (by kernel_rfl) (by kernel_rfl) (by kernel_rfl) ?_
  simp only [List.map_cons, List.map_nil, pick, List.getD_cons_zero, List.getD_cons_succ]
  have hb0 : Below w.heap.size w ((w.alloc (.cells #[.int .i64 author, .int .i64 number, .string prev, .int .i64 time, .int .i64 kind, .int .i64 a, .int .i64 b, .int .i64 cc, .slice A n c, .slice B m k, .string body, .int .i64 key, .string dig] 30)).alloc (.cells #[.int .i64 0, .string ⟨#[]⟩] 28)).drew := ((one_new w _).alloc (by simp) _).drew
  have hx0 : ((w.alloc (.cells #[.int .i64 author, .int .i64 number, .string prev, .int .i64 time, .int .i64 kind, .int .i64 a, .int .i64 b, .int .i64 cc, .slice A n c, .slice B m k, .string body, .int .i64 key, .string dig] 30)).alloc (.cells #[.int .i64 0, .string ⟨#[]⟩] 28)).drew.heap[w.heap.size]? = _ := (Below.heap_alloc _ _ _ (by simp)).trans (heap_alloc_new w (.cells #[.int .i64 author, .int .i64 number, .string prev, .int .i64 time, .int .i64 kind, .int .i64 a, .int .i64 b, .int .i64 cc, .slice A n c, .slice B m k, .string body, .int .i64 key, .string dig] 30))
  have hy0 : ((w.alloc (.cells #[.int .i64 author, .int .i64 number, .string prev, .int .i64 time, .int .i64 kind, .int .i64 a, .int .i64 b, .int .i64 cc, .slice A n c, .slice B m k, .string body, .int .i64 key, .string dig] 30)).alloc (.cells #[.int .i64 0, .string ⟨#[]⟩] 28)).drew.heap[(w.alloc (.cells #[.int .i64 author, .int .i64 number, .string prev, .int .i64 time, .int .i64 kind, .int .i64 a, .int .i64 b, .int .i64 cc, .slice A n c, .slice B m k, .string body, .int .i64 key, .string dig] 30)).heap.size]? = _ := heap_alloc_new (w.alloc (.cells #[.int .i64 author, .int .i64 number, .string prev, .int .i64 time, .int .i64 kind, .int .i64 a, .int .i64 b, .int .i64 cc, .slice A n c, .slice B m k, .string body, .int .i64 key, .string dig] 30)) (.cells #[.int .i64 0, .string ⟨#[]⟩] 28)
  rw [show (w.alloc (.cells #[.int .i64 author, .int .i64 number, .string prev, .int .i64 time, .int .i64 kind, .int .i64 a, .int .i64 b, .int .i64 cc, .slice A n c, .slice B m k, .string body, .int .i64 key, .string dig] 30)).heap.size = G by rw [HGG.out]; simp] at hy0
  have hz0 : ((w.alloc (.cells #[.int .i64 author, .int .i64 number, .string prev, .int .i64 time, .int .i64 kind, .int .i64 a, .int .i64 b, .int .i64 cc, .slice A n c, .slice B m k, .string body, .int .i64 key, .string dig] 30)).alloc (.cells #[.int .i64 0, .string ⟨#[]⟩] 28)).drew.heap.size = G + 1 := by rw [HGG.out]; show ((w.alloc _).alloc _).heap.size = _; simp
  generalize ((w.alloc (.cells #[.int .i64 author, .int .i64 number, .string prev, .int .i64 time, .int .i64 kind, .int .i64 a, .int .i64 b, .int .i64 cc, .slice A n c, .slice B m k, .string body, .int .i64 key, .string dig] 30)).alloc (.cells #[.int .i64 0, .string ⟨#[]⟩] 28)).drew = w1 at hb0 hx0 hy0 hz0 ⊢
  rw [← HGG.out]
  obtain ⟨hf0, hf1, hf2, hf3, hf4, hf5, hf6, hf7, hf8, hf9, hf10, hf11, hf12⟩ := stm_futs (F := Below G) (Below.refl G) (s := ⟨author, number, prev, time, kind, a, b, cc, list, pins, body, key, dig⟩) (W := w1) (fun w' h => h.block _ (by rw [HGG.out]; omega)) hx0
  have HB1 := Lib.hid hb0; have HY1 := Lib.hid hy0; have HZ1 := Lib.hid hz0; clear hb0 hx0 hy0 hz0
  refine wpGrow_cons ?_
  repeat (go_big_quiet_step (fail))
  refine wpQuiet_nil ?_
  clear hf0 hf1 hf2 hf3 hf4 hf5 hf6 hf7 hf8 hf9 hf10 hf11 hf12
  go_wp2_with fail
  refine (HD.out w1 HB1.out).mono ?_
  rintro e w2 ⟨rfl, hb⟩
  have HB2 := Lib.hid (HB1.out.trans (hb.mono HB1.out.size)); have HY2 := Lib.hid ((hb.block G (by rw [HZ1.out]; omega)).trans HY1.out); have HF := Lib.hid (hb.mono (by rw [HZ1.out]; omega : G ≤ w1.heap.size)); clear hb HB1 HY1
  go_wp2_with fail
  refine pieceEnd_normal ⟨HF.out, ?_⟩
  clear HF
  refine wpGrow_cons ?_
  refine wpQuiet_nil ?_
  go_wp2_with fail
  refine pieceEnd_normal ⟨Below.refl _ _, ?_⟩
  refine wpGrow_cons ?_
  refine wpQuiet_nil ?_
  refine wpList_store_row rfl 28 (.tmp 2) (.tmp 7) rfl G #[.int .i64 author, .string D] rfl rfl 28 _ HY2.out (by kernel_rfl) rfl (by simp [Value.oneCell']) ?_
  refine wpList_nil ?_
  refine pieceEnd_normal ⟨below_setRow (Below.refl _ _) (Nat.le_refl _) _, ?_⟩
  refine wpGrow_nil ?_
  refine wpQuiet_nil ?_
  go_wp2
  refine bodyPost_ret (v := .agg #[.int .i64 author, .string D]) (results_cell_row rfl _ _ G 28 #[.int .i64 author, .string D] (0, 0) _ rfl (setRow_heap _ _ _ _ _ _ HY2.out) Tryz.underlying28 rfl (by kernel_rfl)) rfl ⟨rfl, below_setRow HB2.out (by rw [HGG.out]; omega) _⟩
/-- Whether the seal is right. -/
def sealedB (s : Stm) : Bool := decide (s.key = s.author) && decide (s.dig = digS s)
set_option maxRecDepth 100000 in
set_option maxHeartbeats 1000000 in
theorem sealed_any (s : Stm) (A : Option Addr) (n c : Nat) (B : Option Addr) (m k : Nat) (w : World) (hl : IRow w A n c s.list) (hp : PRow w B m k s.pins) (hs : Small s) (hr : Rounds w) :
    Calls Tryz.prog 42 #[stmV s A n c B m k] w (SaysL (.bool (sealedB s)) w) := by
  have HD : Hid (∀ w', Below w.heap.size w w' → Calls Tryz.prog 78 #[stmV s A n c B m k] w' (SaysL (sealV s.author (digS s)) w')) := Lib.hid fun w' h => rightSeal_any s A n c B m k w' (hl.later h) (hp.later h) hs (hr.later h)
  clear hl hp hs hr
  have HS : Hid (sealedB s = (decide (s.key = s.author) && decide (s.dig = digS s))) := Lib.hid rfl
  generalize digS s = D at HD HS
  generalize sealedB s = R at HS ⊢
  obtain ⟨author, number, prev, time, kind, a, b, cc, list, pins, body, key, dig⟩ := s
  unfold stmV sealV at *
  simp only at HS
  go_enter Tryz.func42, Tryz.ntmps42
  go_wp2_with fail
  refine wp_region_grow (by kernel_rfl) Later Later.refl (fun _ _ _ => Later.trans) [4, 5] [([0, 1, 2], 3)] (by kernel_rfl) (by kernel_rfl) (by kernel_rfl) ?_
  simp only [List.map_cons, List.map_nil, pick, List.getD_cons_zero, List.getD_cons_succ]
  have hb0 : Below w.heap.size w (w.alloc (.cells #[.int .i64 author, .int .i64 number, .string prev, .int .i64 time, .int .i64 kind, .int .i64 a, .int .i64 b, .int .i64 cc, .slice A n c, .slice B m k, .string body, .int .i64 key, .string dig] 30)).drew := (one_new w _).drew
  have hx0 : (w.alloc (.cells #[.int .i64 author, .int .i64 number, .string prev, .int .i64 time, .int .i64 kind, .int .i64 a, .int .i64 b, .int .i64 cc, .slice A n c, .slice B m k, .string body, .int .i64 key, .string dig] 30)).drew.heap[w.heap.size]? = _ := heap_alloc_new w (.cells #[.int .i64 author, .int .i64 number, .string prev, .int .i64 time, .int .i64 kind, .int .i64 a, .int .i64 b, .int .i64 cc, .slice A n c, .slice B m k, .string body, .int .i64 key, .string dig] 30)
  have hz0 : w.heap.size < (w.alloc (.cells #[.int .i64 author, .int .i64 number, .string prev, .int .i64 time, .int .i64 kind, .int .i64 a, .int .i64 b, .int .i64 cc, .slice A n c, .slice B m k, .string body, .int .i64 key, .string dig] 30)).drew.heap.size := by show _ < (w.alloc _).heap.size; simp
  generalize (w.alloc (.cells #[.int .i64 author, .int .i64 number, .string prev, .int .i64 time, .int .i64 kind, .int .i64 a, .int .i64 b, .int .i64 cc, .slice A n c, .slice B m k, .string body, .int .i64 key, .string dig] 30)).drew = w1 at hb0 hx0 hz0 ⊢
  obtain ⟨hf0, hf1, hf2, hf3, hf4, hf5, hf6, hf7, hf8, hf9, hf10, hf11, hf12⟩ := stm_futs (F := Later) Later.refl (s := ⟨author, number, prev, time, kind, a, b, cc, list, pins, body, key, dig⟩) (W := w1) (fun w' h => h.block _ hz0) hx0
  have HB1 := Lib.hid hb0; clear hb0 hx0 hz0
  refine wpGrow_cons ?_
  repeat (go_big_quiet_step (fail))
  refine wpQuiet_nil ?_
  clear hf0 hf1 hf2 hf3 hf4 hf5 hf6 hf7 hf8 hf9 hf10 hf11 hf12
  go_wp2_with fail
  refine (HD.out w1 HB1.out).mono ?_
  rintro e w2 ⟨rfl, hb⟩
  have HB2 := Lib.hid (HB1.out.trans (hb.mono HB1.out.size)); have HF : Hid (Later w1 w2) := Lib.hid hb; clear hb HB1
  go_wp2_with fail
  refine pieceEnd_normal ⟨HF.out, ?_⟩
  clear HF
  by_cases e1 : key = author
  · by_cases e2 : dig.toList = D.toList
    · have HV : Hid (R = true) := by unfold Hid; rw [HS.out]; simp [e1, (toList_iff _ _).1 e2]
      refine wpGrow_nil ?_
      repeat (go_big_quiet_step (fail))
      refine wpQuiet_nil ?_
      go_wp2
      go_ret
      exact ⟨by rw [HV.out]; rfl, HB2.out⟩
    · have e3 : ¬ dig = D := fun h => e2 ((toList_iff _ _).2 h)
      have HV : Hid (R = false) := by unfold Hid; rw [HS.out]; simp [e1, e3]
      refine wpGrow_nil ?_
      repeat (go_big_quiet_step (fail))
      refine wpQuiet_nil ?_
      go_wp2
      go_ret
      exact ⟨by rw [HV.out]; rfl, HB2.out⟩
  · have HV : Hid (R = false) := by unfold Hid; rw [HS.out]; simp [e1]
    refine wpGrow_nil ?_
    repeat (go_big_quiet_step (fail))
    refine wpQuiet_nil ?_
    go_wp2
    go_ret
    exact ⟨by rw [HV.out]; rfl, HB2.out⟩
/-- A statement with the right seal. -/
def sealOf (s : Stm) : Stm := { s with key := s.author, dig := digS s }
end Go.Proofs.YtnjilfdmplbalaaGreatDoor
