import Derived.Test.YtnmpbjgccbnomaaGreatPackAB
import Derived.Test.YtnmpbjgccbnomaaGreatPackAD
import Derived.Test.YtnmpbjgccbnomaaGreatRefP
import Derived.Test.YtnmpbjgccbnomaaGreatPackAA
/- The walks of the reference's Digest, Sealed, Copy, Seal. -/
namespace Go.Proofs.YtnmpbjgccbnomaaGreat
open Go.RowKit
theorem refSum_str (A : Option Addr) (n c : Nat) (us : List UInt8) (w : World) (h : BRow w A n c us) (hn : n ≤ 2000000) :
    Calls Tryz.prog 92 #[.slice A n c] w (SaysL (.string (strOf (shaL us n))) w) :=
  (refSum_any A n c us w h.sliceAt (by omega)).mono fun _ _ ⟨h1, h2⟩ => ⟨by rw [h1, same_digest us n h.len], h2⟩
set_option maxRecDepth 100000 in
set_option maxHeartbeats 1000000 in
theorem refDigest_any (s : Stm) (A : Option Addr) (n c : Nat) (B : Option Addr) (m k : Nat) (w : World) (hl : IRow w A n c s.list) (hp : PRow w B m k s.pins) (hs : Small s) :
    Calls Tryz.prog 66 #[stmV s A n c B m k] w (SaysL (.string (digS s)) w) := by
  have HBY : Hid (∀ w', Below w.heap.size w w' → Calls Tryz.prog 93 #[stmV s A n c B m k] w' (GivesB w' (bodyB s))) := Lib.hid fun w' h => refBytes_any s A n c B m k w' (hl.later h) (hp.later h) hs
  have HLB := Lib.hid (body_len hs)
  have HD : Hid (digS s = strOf (shaL (bodyB s) (bodyB s).length)) := Lib.hid rfl
  clear hl hp hs
  generalize digS s = D at HD ⊢
  generalize bodyB s = R at HD HLB HBY
  obtain ⟨author, number, prev, time, kind, a, b, cc, list, pins, body, key, dig⟩ := s
  unfold stmV at HBY ⊢
  go_enter Tryz.func66, Tryz.ntmps66
  go_wp2_with fail
  refine (HBY.out _ (one_new _ _)).mono ?_
  rintro e w1 ⟨A1, m1, c1, rfl, hm1, hr1, -, hb⟩
  have HB1 := Lib.hid ((one_new w _).trans (hb.mono (by simp)))
  have HR1 := Lib.hid hr1; clear hb hr1 HBY
  subst hm1
  have hlen := HLB.out
  go_wp2_with fail
  refine (refSum_str A1 _ c1 R w1 HR1.out (by omega)).mono ?_
  rintro e w2 ⟨rfl, hb2⟩
  go_wp2
  go_ret
  exact ⟨by rw [HD.out]; rfl, HB1.out.trans (hb2.mono HB1.out.size)⟩
theorem pin_info : (Tryz.prog.info? 122).map (fun i => (i.zero, i.size, i.bytes)) = some (some (.agg #[.int .i64 0, .int .i64 0, .string ⟨#[]⟩]), 3, 32) := by kernel_rfl
/-- A call that returns a statement. -/
def GivesS (w : World) (s : Stm) (e : Ending) (w' : World) : Prop := ∃ A n c B m k, e = .returned (stmV s A n c B m k) ∧ IRow w' A n c s.list ∧ PRow w' B m k s.pins ∧ New w w' A ∧ New w w' B ∧ Below w.heap.size w w'
set_option maxRecDepth 100000 in
set_option maxHeartbeats 2000000 in
theorem copy_any (s : Stm) (A : Option Addr) (n c : Nat) (B : Option Addr) (m k : Nat) (w : World) (hl : IRow w A n c s.list) (hp : PRow w B m k s.pins) (hn : n ≤ 1000) (hm : m ≤ 1000) :
    Calls Tryz.prog 44 #[stmV s A n c B m k] w (GivesS w s) := by
  have HL := Lib.hid hl; have HP := Lib.hid hp; have HN := Lib.hid hl.len; have HM := Lib.hid hp.len
  clear hl hp
  obtain ⟨author, number, prev, time, kind, a, b, cc, list, pins, body, key, dig⟩ := s
  unfold stmV
  simp only at HL HP HN HM
  obtain ⟨G, hG⟩ : ∃ G, G = w.heap.size + 1 := ⟨_, rfl⟩
  have HGG := Lib.hid hG; clear hG
  have hb0 : Below w.heap.size w ((w.alloc (.cells #[.int .i64 author, .int .i64 number, .string prev, .int .i64 time, .int .i64 kind, .int .i64 a, .int .i64 b, .int .i64 cc, .slice A n c, .slice B m k, .string body, .int .i64 key, .string dig] 48)).alloc (.cells #[.int .i64 0, .int .i64 0, .string ⟨#[]⟩, .int .i64 0, .int .i64 0, .int .i64 0, .int .i64 0, .int .i64 0, .slice none 0 0, .slice none 0 0, .string ⟨#[]⟩, .int .i64 0, .string ⟨#[]⟩] 48)) := (one_new w _).alloc (by simp) _
  have hx0 : ((w.alloc (.cells #[.int .i64 author, .int .i64 number, .string prev, .int .i64 time, .int .i64 kind, .int .i64 a, .int .i64 b, .int .i64 cc, .slice A n c, .slice B m k, .string body, .int .i64 key, .string dig] 48)).alloc (.cells #[.int .i64 0, .int .i64 0, .string ⟨#[]⟩, .int .i64 0, .int .i64 0, .int .i64 0, .int .i64 0, .int .i64 0, .slice none 0 0, .slice none 0 0, .string ⟨#[]⟩, .int .i64 0, .string ⟨#[]⟩] 48)).heap[w.heap.size]? = _ := (Below.heap_alloc _ _ _ (by simp)).trans (heap_alloc_new w (.cells #[.int .i64 author, .int .i64 number, .string prev, .int .i64 time, .int .i64 kind, .int .i64 a, .int .i64 b, .int .i64 cc, .slice A n c, .slice B m k, .string body, .int .i64 key, .string dig] 48))
  have hy0 : ((w.alloc (.cells #[.int .i64 author, .int .i64 number, .string prev, .int .i64 time, .int .i64 kind, .int .i64 a, .int .i64 b, .int .i64 cc, .slice A n c, .slice B m k, .string body, .int .i64 key, .string dig] 48)).alloc (.cells #[.int .i64 0, .int .i64 0, .string ⟨#[]⟩, .int .i64 0, .int .i64 0, .int .i64 0, .int .i64 0, .int .i64 0, .slice none 0 0, .slice none 0 0, .string ⟨#[]⟩, .int .i64 0, .string ⟨#[]⟩] 48)).heap[(w.alloc (.cells #[.int .i64 author, .int .i64 number, .string prev, .int .i64 time, .int .i64 kind, .int .i64 a, .int .i64 b, .int .i64 cc, .slice A n c, .slice B m k, .string body, .int .i64 key, .string dig] 48)).heap.size]? = _ := heap_alloc_new (w.alloc (.cells #[.int .i64 author, .int .i64 number, .string prev, .int .i64 time, .int .i64 kind, .int .i64 a, .int .i64 b, .int .i64 cc, .slice A n c, .slice B m k, .string body, .int .i64 key, .string dig] 48)) (.cells #[.int .i64 0, .int .i64 0, .string ⟨#[]⟩, .int .i64 0, .int .i64 0, .int .i64 0, .int .i64 0, .int .i64 0, .slice none 0 0, .slice none 0 0, .string ⟨#[]⟩, .int .i64 0, .string ⟨#[]⟩] 48)
  rw [show (w.alloc (.cells #[.int .i64 author, .int .i64 number, .string prev, .int .i64 time, .int .i64 kind, .int .i64 a, .int .i64 b, .int .i64 cc, .slice A n c, .slice B m k, .string body, .int .i64 key, .string dig] 48)).heap.size = G by rw [HGG.out]; simp] at hy0
  have hz0 : ((w.alloc (.cells #[.int .i64 author, .int .i64 number, .string prev, .int .i64 time, .int .i64 kind, .int .i64 a, .int .i64 b, .int .i64 cc, .slice A n c, .slice B m k, .string body, .int .i64 key, .string dig] 48)).alloc (.cells #[.int .i64 0, .int .i64 0, .string ⟨#[]⟩, .int .i64 0, .int .i64 0, .int .i64 0, .int .i64 0, .int .i64 0, .slice none 0 0, .slice none 0 0, .string ⟨#[]⟩, .int .i64 0, .string ⟨#[]⟩] 48)).heap.size = G + 1 := by rw [HGG.out]; simp
  have HB1 := Lib.hid hb0; have HX1 := Lib.hid hx0; have HY1 := Lib.hid hy0; have HZ1 := Lib.hid hz0; clear hb0 hx0 hy0 hz0
  go_enter Tryz.func44, Tryz.ntmps44
  go_wp2_with (first
    | (at_builtin; refine wpList_app _ rfl (.const (.slice none 0 0)) (.tmp 4) 22 22 3 rfl (G + 1) Tryz.underlying22 i64_info rfl _ 0 [] (World.ownsRow_nil _ _ _ _) rfl (.slice A n c) n (intsV list) (Row.src (HL.out.later HB1.out) Tryz.underlying22 (intsV_one _)) rfl (by unfold maxLen; omega) (by omega) (by rw [HZ1.out]; exact Nat.le_refl _) ?_; intro v2 w2 ho2 hb2; rw [Nat.zero_add, List.nil_append] at ho2; obtain ⟨A2, c2, hv2, hr2⟩ := Row.of_own ho2; subst hv2; have HA2 : Hid (∀ ad, A2 = some ad → G + 1 ≤ ad.block) := Lib.hid (fun ad hA => by subst hA; exact (World.ownsRow.lt ho2 _ rfl).1); have HL2 : Hid (∀ ad, A2 = some ad → ad.block < w2.heap.size) := Lib.hid (fun ad hA => by subst hA; exact (World.ownsRow.lt ho2 _ rfl).2); have HR2 := Lib.hid hr2; have HB2 := Lib.hid (HB1.out.trans (hb2.mono (by rw [HGG.out]; omega))); have HX2 := Lib.hid ((hb2.block w.heap.size (by rw [HGG.out]; omega)).trans HX1.out); have HY2 := Lib.hid ((hb2.block G (by omega)).trans HY1.out); have HZ2 : Hid (G + 1 ≤ w2.heap.size) := Lib.hid (by have := hb2.size; rw [HZ1.out] at this; exact this); clear ho2 hb2 hr2; obtain ⟨hc0, hc1, hc2, hc3, hc4, hc5, hc6, hc7, hc8, hc9, hc10, hc11, hc12⟩ := stm_cells (s := ⟨author, number, prev, time, kind, a, b, cc, list, pins, body, key, dig⟩) HX2.out; have hz8 : w2.frozen? ⟨w.heap.size, 8, none⟩ = false := frozen_of_row _ _ _ _ _ HX2.out)
    | (at_builtin; refine wpList_appK (w2.setCell ⟨w.heap.size, 8, none⟩ (.slice A2 n c2)) rfl (.const (.slice none 0 0)) (.tmp 8) 44 44 122 rfl (G + 1) Tryz.underlying44 pin_info rfl _ 0 [] (World.ownsRow_nil _ _ _ _) rfl (.slice B m k) m (pinsC pins) (Row.src (HP.out.later (HB2.out.setCell (Nat.le_refl _) _)) Tryz.underlying44 (pinsC_one _)) rfl (by unfold maxLen; omega) (by omega) (by rw [World.size_setCell]; exact HZ2.out) ?_; intro v3 w3 ho3 hb3 hk3; rw [Nat.zero_add, List.nil_append] at ho3; obtain ⟨B3, k3, hv3, hr3⟩ := Row.of_own ho3; subst hv3; have HA3 : Hid (∀ ad, B3 = some ad → G + 1 ≤ ad.block) := Lib.hid (fun ad hA => by subst hA; exact (World.ownsRow.lt ho3 _ rfl).1); have HM3 : Hid (∀ ad, B3 = some ad → ad.block < w3.heap.size) := Lib.hid (fun ad hA => by subst hA; exact (World.ownsRow.lt ho3 _ rfl).2); have HL3 : Hid (∀ ad, A2 = some ad → ad.block < w3.heap.size) := Lib.hid (fun ad hA => Nat.lt_of_lt_of_le (HL2.out ad hA) (by have := hb3.size; rw [World.size_setCell] at this; exact this)); have HK3 : Hid (∀ k, k < w2.heap.size → w3.heap[k]? = (w2.setCell ⟨w.heap.size, 8, none⟩ (.slice A2 n c2)).heap[k]?) := Lib.hid (fun k hk => hk3 k (by rw [World.size_setCell]; exact hk) (by intro e; cases e)); clear hk3; have HR3 := Lib.hid hr3; have HB3 := Lib.hid ((HB2.out.setCell (p := ⟨w.heap.size, 8, none⟩) (Nat.le_refl _) (.slice A2 n c2)).trans (hb3.mono (by rw [HGG.out]; omega))); clear hc0 hc1 hc2 hc3 hc4 hc5 hc6 hc7 hc8 hc9 hc10 hc11 hc12 hz8; have HX3 := Lib.hid ((hb3.block w.heap.size (by rw [HGG.out]; omega)).trans (heap_setCell_same w2 w.heap.size 8 _ _ _ HX2.out)); have HY3 := Lib.hid ((hb3.block G (by omega)).trans ((Below.heap_setCell _ _ _ _ (by rw [HGG.out]; show w.heap.size + 1 ≠ w.heap.size; omega)).trans HY2.out)); have HYS : Hid ((w3.setCell ⟨w.heap.size, 9, none⟩ (.slice B3 m k3)).heap[w.heap.size + 1]? = some (.cells #[.int .i64 0, .int .i64 0, .string ⟨#[]⟩, .int .i64 0, .int .i64 0, .int .i64 0, .int .i64 0, .int .i64 0, .slice none 0 0, .slice none 0 0, .string ⟨#[]⟩, .int .i64 0, .string ⟨#[]⟩] 48 (0, 0))) := Lib.hid (by have h := HY3.out; rw [HGG.out] at h; exact (Below.heap_setCell _ _ _ _ (by show w.heap.size + 1 ≠ w.heap.size; omega)).trans h); have HBS := Lib.hid (HB3.out.setCell (p := ⟨w.heap.size, 9, none⟩) (Nat.le_refl _) (.slice B3 m k3)); clear ho3 hb3 hr3; obtain ⟨hc0, hc1, hc2, hc3, hc4, hc5, hc6, hc7, hc8, hc9, hc10, hc11, hc12⟩ := stm_cells (A := A2) (n := n) (c := c2) (s := ⟨author, number, prev, time, kind, a, b, cc, list, pins, body, key, dig⟩) HX3.out; have hz9 : w3.frozen? ⟨w.heap.size, 9, none⟩ = false := frozen_of_row _ _ _ _ _ HX3.out)
    | refine wpList_store_row rfl 48 (.tmp 2) (.tmp 11) rfl (w.heap.size + 1) #[.int .i64 author, .int .i64 number, .string prev, .int .i64 time, .int .i64 kind, .int .i64 a, .int .i64 b, .int .i64 cc, .slice A2 n c2, .slice B3 m k3, .string body, .int .i64 key, .string dig] rfl rfl 48 _ HYS.out (by kernel_rfl) rfl (by simp [Value.oneCell']) ?_)
  have hfin : ∀ k, G + 1 ≤ k → ((w3.setCell ⟨w.heap.size, 9, none⟩ (.slice B3 m k3)).setRow (w.heap.size + 1) #[.int .i64 author, .int .i64 number, .string prev, .int .i64 time, .int .i64 kind, .int .i64 a, .int .i64 b, .int .i64 cc, .slice A2 n c2, .slice B3 m k3, .string body, .int .i64 key, .string dig]).heap[k]? = w3.heap[k]? := fun k hk => by
    rw [setRow_other _ _ _ _ (by have := HGG.out; omega)]
    exact Below.heap_setCell _ _ _ _ (by have := HGG.out; show k ≠ w.heap.size; omega)
  have hr2 : IRow ((w3.setCell ⟨w.heap.size, 9, none⟩ (.slice B3 m k3)).setRow (w.heap.size + 1) #[.int .i64 author, .int .i64 number, .string prev, .int .i64 time, .int .i64 kind, .int .i64 a, .int .i64 b, .int .i64 cc, .slice A2 n c2, .slice B3 m k3, .string body, .int .i64 key, .string dig]) A2 n c2 list := Row.keep HR2.out fun ad hA h0 hlt => by
    have h1 := HA2.out ad hA
    rw [hfin _ h1, HK3.out _ hlt]
    exact Below.heap_setCell _ _ _ _ (by have := HGG.out; show ad.block ≠ w.heap.size; omega)
  refine bodyPost_ret (v := .agg #[.int .i64 author, .int .i64 number, .string prev, .int .i64 time, .int .i64 kind, .int .i64 a, .int .i64 b, .int .i64 cc, .slice A2 n c2, .slice B3 m k3, .string body, .int .i64 key, .string dig]) (results_cell_row rfl _ _ (w.heap.size + 1) 48 #[.int .i64 author, .int .i64 number, .string prev, .int .i64 time, .int .i64 kind, .int .i64 a, .int .i64 b, .int .i64 cc, .slice A2 n c2, .slice B3 m k3, .string body, .int .i64 key, .string dig] (0, 0) _ rfl (setRow_heap _ _ _ _ _ _ HYS.out) Tryz.underlying48 rfl (by kernel_rfl)) rfl ⟨A2, n, c2, B3, m, k3, rfl, hr2, ?_, fun ad hA => ⟨by have := HA2.out ad hA; have := HGG.out; omega, by rw [setRow_size, World.size_setCell]; exact HL3.out ad hA⟩, fun ad hA => ⟨by have := HA3.out ad hA; have := HGG.out; omega, by rw [setRow_size, World.size_setCell]; exact HM3.out ad hA⟩, below_setRow HBS.out (by omega) _⟩
  exact Row.keep HR3.out fun ad hA h0 hlt => hfin _ (HA3.out ad hA)
/-- Below B nothing turns, nor does one cell. -/
def KeepC (B : Nat) (p : Addr) (a b : World) : Prop := Below B a b ∧ b.cell? p = a.cell? p
theorem KeepC.refl (B : Nat) (p : Addr) (a : World) : KeepC B p a a := ⟨Below.refl _ _, rfl⟩
theorem KeepC.trans {B : Nat} {p : Addr} {a b c : World} (h : KeepC B p a b) (k : KeepC B p b c) : KeepC B p a c := ⟨h.1.trans k.1, k.2.trans h.2⟩
set_option maxRecDepth 100000 in
set_option maxHeartbeats 2000000 in
theorem refSeal_any (s : Stm) (A : Option Addr) (n c : Nat) (B : Option Addr) (m k : Nat) (w : World) (hl : IRow w A n c s.list) (hp : PRow w B m k s.pins) (hs : Small s) :
    Calls Tryz.prog 70 #[stmV s A n c B m k] w (GivesS w (sealOf s)) := by
  have hn : n ≤ 1000 := by rw [← hl.len]; exact hs.list
  have hm : m ≤ 1000 := by rw [← hp.len]; exact hs.pins
  have HCP : Hid (∀ w', Below w.heap.size w w' → Calls Tryz.prog 44 #[stmV s A n c B m k] w' (GivesS w' s)) := Lib.hid fun w' h => copy_any s A n c B m k w' (hl.later h) (hp.later h) hn hm
  have HD : Hid (∀ A n c B m k w', IRow w' A n c s.list → PRow w' B m k s.pins → Calls Tryz.prog 66 #[stmV s A n c B m k] w' (SaysL (.string (digS s)) w')) := Lib.hid fun A n c B m k w' h1 h2 => refDigest_any s A n c B m k w' h1 h2 hs
  clear hl hp hs
  unfold sealOf
  generalize digS s = D at HD ⊢
  obtain ⟨author, number, prev, time, kind, a, b, cc, list, pins, body, key, dig⟩ := s
  unfold stmV at HCP HD ⊢
  simp only at HD
  obtain ⟨G, hG⟩ : ∃ G, G = w.heap.size + 1 := ⟨_, rfl⟩
  have HGG := Lib.hid hG; clear hG
  have hb0 : Below w.heap.size w ((w.alloc (.cells #[.int .i64 author, .int .i64 number, .string prev, .int .i64 time, .int .i64 kind, .int .i64 a, .int .i64 b, .int .i64 cc, .slice A n c, .slice B m k, .string body, .int .i64 key, .string dig] 48)).alloc (.cells #[.int .i64 0, .int .i64 0, .string ⟨#[]⟩, .int .i64 0, .int .i64 0, .int .i64 0, .int .i64 0, .int .i64 0, .slice none 0 0, .slice none 0 0, .string ⟨#[]⟩, .int .i64 0, .string ⟨#[]⟩] 48)) := (one_new w _).alloc (by simp) _
  have hx0 : ((w.alloc (.cells #[.int .i64 author, .int .i64 number, .string prev, .int .i64 time, .int .i64 kind, .int .i64 a, .int .i64 b, .int .i64 cc, .slice A n c, .slice B m k, .string body, .int .i64 key, .string dig] 48)).alloc (.cells #[.int .i64 0, .int .i64 0, .string ⟨#[]⟩, .int .i64 0, .int .i64 0, .int .i64 0, .int .i64 0, .int .i64 0, .slice none 0 0, .slice none 0 0, .string ⟨#[]⟩, .int .i64 0, .string ⟨#[]⟩] 48)).heap[w.heap.size]? = _ := (Below.heap_alloc _ _ _ (by simp)).trans (heap_alloc_new w (.cells #[.int .i64 author, .int .i64 number, .string prev, .int .i64 time, .int .i64 kind, .int .i64 a, .int .i64 b, .int .i64 cc, .slice A n c, .slice B m k, .string body, .int .i64 key, .string dig] 48))
  have hy0 : ((w.alloc (.cells #[.int .i64 author, .int .i64 number, .string prev, .int .i64 time, .int .i64 kind, .int .i64 a, .int .i64 b, .int .i64 cc, .slice A n c, .slice B m k, .string body, .int .i64 key, .string dig] 48)).alloc (.cells #[.int .i64 0, .int .i64 0, .string ⟨#[]⟩, .int .i64 0, .int .i64 0, .int .i64 0, .int .i64 0, .int .i64 0, .slice none 0 0, .slice none 0 0, .string ⟨#[]⟩, .int .i64 0, .string ⟨#[]⟩] 48)).heap[(w.alloc (.cells #[.int .i64 author, .int .i64 number, .string prev, .int .i64 time, .int .i64 kind, .int .i64 a, .int .i64 b, .int .i64 cc, .slice A n c, .slice B m k, .string body, .int .i64 key, .string dig] 48)).heap.size]? = _ := heap_alloc_new (w.alloc (.cells #[.int .i64 author, .int .i64 number, .string prev, .int .i64 time, .int .i64 kind, .int .i64 a, .int .i64 b, .int .i64 cc, .slice A n c, .slice B m k, .string body, .int .i64 key, .string dig] 48)) (.cells #[.int .i64 0, .int .i64 0, .string ⟨#[]⟩, .int .i64 0, .int .i64 0, .int .i64 0, .int .i64 0, .int .i64 0, .slice none 0 0, .slice none 0 0, .string ⟨#[]⟩, .int .i64 0, .string ⟨#[]⟩] 48)
  rw [show (w.alloc (.cells #[.int .i64 author, .int .i64 number, .string prev, .int .i64 time, .int .i64 kind, .int .i64 a, .int .i64 b, .int .i64 cc, .slice A n c, .slice B m k, .string body, .int .i64 key, .string dig] 48)).heap.size = w.heap.size + 1 by simp] at hy0
  have hz0 : ((w.alloc (.cells #[.int .i64 author, .int .i64 number, .string prev, .int .i64 time, .int .i64 kind, .int .i64 a, .int .i64 b, .int .i64 cc, .slice A n c, .slice B m k, .string body, .int .i64 key, .string dig] 48)).alloc (.cells #[.int .i64 0, .int .i64 0, .string ⟨#[]⟩, .int .i64 0, .int .i64 0, .int .i64 0, .int .i64 0, .int .i64 0, .slice none 0 0, .slice none 0 0, .string ⟨#[]⟩, .int .i64 0, .string ⟨#[]⟩] 48)).heap.size = G + 1 := by rw [HGG.out]; simp
  have HB1 := Lib.hid hb0; have HX1 := Lib.hid hx0; have HY1 := Lib.hid hy0; have HZ1 := Lib.hid hz0; clear hb0 hx0 hy0 hz0
  go_enter Tryz.func70, Tryz.ntmps70
  go_wp2_with fail
  refine (HCP.out _ HB1.out).mono ?_
  rintro e w2 ⟨A2, n2, c2, B2, m2, k2, rfl, hl2, hp2, hna, hnb, hb⟩
  unfold stmV
  simp only at hl2 hp2
  have hsz := HZ1.out
  have HNA : Hid (∀ ad, A2 = some ad → G + 1 ≤ ad.block) := Lib.hid fun ad hA => by have := (hna ad hA).1; rw [hsz] at this; exact this
  have HNB : Hid (∀ ad, B2 = some ad → G + 1 ≤ ad.block) := Lib.hid fun ad hA => by have := (hnb ad hA).1; rw [hsz] at this; exact this
  have HMA2 : Hid (∀ ad, A2 = some ad → ad.block < w2.heap.size) := Lib.hid fun ad hA => (hna ad hA).2
  have HMB2 : Hid (∀ ad, B2 = some ad → ad.block < w2.heap.size) := Lib.hid fun ad hA => (hnb ad hA).2
  clear hna hnb
  have HL2 := Lib.hid hl2; have HP2 := Lib.hid hp2; have HB2 := Lib.hid (HB1.out.trans (hb.mono HB1.out.size)); have HX2 := Lib.hid ((hb.block w.heap.size (by rw [hsz, HGG.out]; omega)).trans HX1.out); have HY2 := Lib.hid ((hb.block (w.heap.size + 1) (by rw [hsz, HGG.out]; omega)).trans HY1.out); have HZ2 : Hid (G + 1 ≤ w2.heap.size) := Lib.hid (by have := hb.size; rw [hsz] at this; exact this)
  clear hl2 hp2 hb HB1 HX1 HY1 HZ1 hsz
  go_wp2_with (refine wpList_store_row rfl 48 (.tmp 1) (.tmp 4) rfl w.heap.size #[.int .i64 author, .int .i64 number, .string prev, .int .i64 time, .int .i64 kind, .int .i64 a, .int .i64 b, .int .i64 cc, .slice A2 n2 c2, .slice B2 m2 k2, .string body, .int .i64 key, .string dig] rfl rfl 48 _ HX2.out (by kernel_rfl) rfl (by simp [Value.oneCell']) ?_)
  refine wp_region_grow (by kernel_rfl) (KeepC w.heap.size ⟨w.heap.size, 0, none⟩) (KeepC.refl _ _) (fun _ _ _ => KeepC.trans) [] [([0, 1], 2), ([], 3), ([], 4), ([5], 6)] (by kernel_rfl) (by kernel_rfl) (by kernel_rfl) ?_
  simp only [List.map_cons, List.map_nil, pick, List.getD_cons_zero, List.getD_cons_succ]
  simp only [Act.put]
  have HX3 : Hid ((w2.setRow w.heap.size #[.int .i64 author, .int .i64 number, .string prev, .int .i64 time, .int .i64 kind, .int .i64 a, .int .i64 b, .int .i64 cc, .slice A2 n2 c2, .slice B2 m2 k2, .string body, .int .i64 key, .string dig]).drew.heap[w.heap.size]? = _) := Lib.hid (setRow_heap _ _ _ #[.int .i64 author, .int .i64 number, .string prev, .int .i64 time, .int .i64 kind, .int .i64 a, .int .i64 b, .int .i64 cc, .slice A2 n2 c2, .slice B2 m2 k2, .string body, .int .i64 key, .string dig] _ _ HX2.out)
  have HY3 : Hid ((w2.setRow w.heap.size #[.int .i64 author, .int .i64 number, .string prev, .int .i64 time, .int .i64 kind, .int .i64 a, .int .i64 b, .int .i64 cc, .slice A2 n2 c2, .slice B2 m2 k2, .string body, .int .i64 key, .string dig]).drew.heap[w.heap.size + 1]? = _) := Lib.hid ((setRow_other w2 w.heap.size (w.heap.size + 1) #[.int .i64 author, .int .i64 number, .string prev, .int .i64 time, .int .i64 kind, .int .i64 a, .int .i64 b, .int .i64 cc, .slice A2 n2 c2, .slice B2 m2 k2, .string body, .int .i64 key, .string dig] (by omega)).trans HY2.out)
  have HB3 : Hid (Below w.heap.size w (w2.setRow w.heap.size #[.int .i64 author, .int .i64 number, .string prev, .int .i64 time, .int .i64 kind, .int .i64 a, .int .i64 b, .int .i64 cc, .slice A2 n2 c2, .slice B2 m2 k2, .string body, .int .i64 key, .string dig]).drew) := Lib.hid ((below_setRow HB2.out (Nat.le_refl _) _).drew)
  have HL3 : Hid (IRow (w2.setRow w.heap.size #[.int .i64 author, .int .i64 number, .string prev, .int .i64 time, .int .i64 kind, .int .i64 a, .int .i64 b, .int .i64 cc, .slice A2 n2 c2, .slice B2 m2 k2, .string body, .int .i64 key, .string dig]).drew A2 n2 c2 list) := Lib.hid (Row.drew (Row.keep HL2.out fun ad hA _ _ => setRow_other _ _ _ _ (by have := HNA.out ad hA; have := HGG.out; omega)))
  have HP3 : Hid (PRow (w2.setRow w.heap.size #[.int .i64 author, .int .i64 number, .string prev, .int .i64 time, .int .i64 kind, .int .i64 a, .int .i64 b, .int .i64 cc, .slice A2 n2 c2, .slice B2 m2 k2, .string body, .int .i64 key, .string dig]).drew B2 m2 k2 pins) := Lib.hid (Row.drew (Row.keep HP2.out fun ad hA _ _ => setRow_other _ _ _ _ (by have := HNB.out ad hA; have := HGG.out; omega)))
  have HZ3 : Hid (G + 1 ≤ (w2.setRow w.heap.size #[.int .i64 author, .int .i64 number, .string prev, .int .i64 time, .int .i64 kind, .int .i64 a, .int .i64 b, .int .i64 cc, .slice A2 n2 c2, .slice B2 m2 k2, .string body, .int .i64 key, .string dig]).drew.heap.size) := Lib.hid (by show _ ≤ (w2.setRow _ _).heap.size; rw [setRow_size]; exact HZ2.out)
  have HMA3 : Hid (∀ ad, A2 = some ad → ad.block < (w2.setRow w.heap.size #[.int .i64 author, .int .i64 number, .string prev, .int .i64 time, .int .i64 kind, .int .i64 a, .int .i64 b, .int .i64 cc, .slice A2 n2 c2, .slice B2 m2 k2, .string body, .int .i64 key, .string dig]).drew.heap.size) := Lib.hid fun ad hA => by show _ < (w2.setRow _ _).heap.size; rw [setRow_size]; exact HMA2.out ad hA
  have HMB3 : Hid (∀ ad, B2 = some ad → ad.block < (w2.setRow w.heap.size #[.int .i64 author, .int .i64 number, .string prev, .int .i64 time, .int .i64 kind, .int .i64 a, .int .i64 b, .int .i64 cc, .slice A2 n2 c2, .slice B2 m2 k2, .string body, .int .i64 key, .string dig]).drew.heap.size) := Lib.hid fun ad hA => by show _ < (w2.setRow _ _).heap.size; rw [setRow_size]; exact HMB2.out ad hA
  clear HX2 HY2 HB2 HL2 HP2 HZ2 HCP HMA2 HMB2
  generalize (w2.setRow w.heap.size #[.int .i64 author, .int .i64 number, .string prev, .int .i64 time, .int .i64 kind, .int .i64 a, .int .i64 b, .int .i64 cc, .slice A2 n2 c2, .slice B2 m2 k2, .string body, .int .i64 key, .string dig]).drew = w3 at HX3 HY3 HB3 HL3 HP3 HZ3 HMA3 HMB3 ⊢
  have hf0 : ∀ x, (fut (KeepC w.heap.size ⟨w.heap.size, 0, none⟩) w3 x).cell? ⟨w.heap.size, 0, none⟩ = some (.int .i64 author) := fun x => by
    rw [(fut_ok (KeepC.refl _ _) w3 x).2, cell_of_row _ _ _ _ _ _ HX3.out]; rfl
  refine wpGrow_cons ?_
  repeat (go_big_quiet_step (fail))
  refine wpQuiet_nil ?_
  clear hf0
  obtain ⟨hc0, hc1, hc2, hc3, hc4, hc5, hc6, hc7, hc8, hc9, hc10, hc11, hc12⟩ := stm_cells (A := A2) (n := n2) (c := c2) (B := B2) (m := m2) (k := k2) (s := ⟨author, number, prev, time, kind, a, b, cc, list, pins, body, key, dig⟩) HX3.out
  go_wp2_with fail
  clear hc0 hc1 hc2 hc3 hc4 hc5 hc6 hc7 hc8 hc9 hc10 hc11 hc12
  refine pieceEnd_normal ⟨KeepC.refl _ _ _, ?_⟩
  refine wpGrow_cons ?_
  refine wpQuiet_nil ?_
  go_wp2_with fail
  refine (HD.out A2 n2 c2 B2 m2 k2 w3 HL3.out HP3.out).mono ?_
  rintro e w4 ⟨rfl, hb⟩
  have hG := HGG.out
  have HF : Hid (KeepC w.heap.size ⟨w.heap.size, 0, none⟩ w3 w4) := Lib.hid ⟨hb.mono (by have := HZ3.out; omega), hb.cell (by show w.heap.size < _; have := HZ3.out; omega)⟩
  have HX4 := Lib.hid ((hb.block w.heap.size (by have := HZ3.out; omega)).trans HX3.out); have HY4 := Lib.hid ((hb.block (w.heap.size + 1) (by have := HZ3.out; omega)).trans HY3.out); have HB4 := Lib.hid (HB3.out.trans (hb.mono HB3.out.size)); have HL4 := Lib.hid (HL3.out.later hb); have HP4 := Lib.hid (HP3.out.later hb)
  have HZ4 : Hid (w3.heap.size ≤ w4.heap.size) := Lib.hid hb.size
  have HMA : Hid (∀ ad, A2 = some ad → ad.block < w4.heap.size) := Lib.hid fun ad hA => Nat.lt_of_lt_of_le (HMA3.out ad hA) hb.size
  have HMB : Hid (∀ ad, B2 = some ad → ad.block < w4.heap.size) := Lib.hid fun ad hA => Nat.lt_of_lt_of_le (HMB3.out ad hA) hb.size
  clear hb HX3 HY3 HB3 HL3 HP3
  go_wp2_with fail
  refine pieceEnd_normal ⟨HF.out, ?_⟩
  clear HF
  refine wpGrow_cons ?_
  refine wpQuiet_nil ?_
  go_wp2_with fail
  refine pieceEnd_normal ⟨KeepC.refl _ _ _, ?_⟩
  refine wpGrow_cons ?_
  repeat (go_big_quiet_step (fail))
  refine wpQuiet_nil ?_
  obtain ⟨hc0, hc1, hc2, hc3, hc4, hc5, hc6, hc7, hc8, hc9, hc10, hc11, hc12⟩ := stm_cells (A := A2) (n := n2) (c := c2) (B := B2) (m := m2) (k := k2) (s := ⟨author, number, prev, time, kind, a, b, cc, list, pins, body, key, dig⟩) HX4.out
  have hz1 : w4.frozen? ⟨w.heap.size, 11, none⟩ = false := frozen_of_row _ _ _ _ _ HX4.out
  have hz2 : w4.frozen? ⟨w.heap.size, 12, none⟩ = false := frozen_of_row _ _ _ _ _ HX4.out
  go_wp2_with fail
  have hx5 : ((w4.setCell ⟨w.heap.size, 11, none⟩ (.int .i64 author)).setCell ⟨w.heap.size, 12, none⟩ (.string D)).heap[w.heap.size]? = some (.cells #[.int .i64 author, .int .i64 number, .string prev, .int .i64 time, .int .i64 kind, .int .i64 a, .int .i64 b, .int .i64 cc, .slice A2 n2 c2, .slice B2 m2 k2, .string body, .int .i64 author, .string D] 48 (0, 0)) := heap_setCell_same _ _ _ _ _ _ (heap_setCell_same _ _ _ _ _ _ HX4.out)
  have hy5 : ((w4.setCell ⟨w.heap.size, 11, none⟩ (.int .i64 author)).setCell ⟨w.heap.size, 12, none⟩ (.string D)).heap[w.heap.size + 1]? = _ := (Below.heap_setCell _ _ _ _ (by show w.heap.size + 1 ≠ w.heap.size; omega)).trans ((Below.heap_setCell _ _ _ _ (by show w.heap.size + 1 ≠ w.heap.size; omega)).trans HY4.out)
  have hk5 : ∀ k, G + 1 ≤ k → ((w4.setCell ⟨w.heap.size, 11, none⟩ (.int .i64 author)).setCell ⟨w.heap.size, 12, none⟩ (.string D)).heap[k]? = w4.heap[k]? := fun k hk => (Below.heap_setCell _ _ _ _ (by show k ≠ w.heap.size; omega)).trans (Below.heap_setCell _ _ _ _ (by show k ≠ w.heap.size; omega))
  have hs5 : ((w4.setCell ⟨w.heap.size, 11, none⟩ (.int .i64 author)).setCell ⟨w.heap.size, 12, none⟩ (.string D)).heap.size = w4.heap.size := by rw [World.size_setCell, World.size_setCell]
  have hb5 : Below w.heap.size w4 ((w4.setCell ⟨w.heap.size, 11, none⟩ (.int .i64 author)).setCell ⟨w.heap.size, 12, none⟩ (.string D)) := ((Below.refl _ _).setCell (p := ⟨w.heap.size, 11, none⟩) (Nat.le_refl _) _).setCell (p := ⟨w.heap.size, 12, none⟩) (Nat.le_refl _) _
  refine pieceEnd_normal ⟨⟨hb5, by rw [cell_of_row _ _ _ _ _ _ hx5, cell_of_row _ _ _ _ _ _ HX4.out]; rfl⟩, ?_⟩
  have HY5 := Lib.hid hy5; have HK5 := Lib.hid hk5; have HS5 := Lib.hid hs5; have HB5 := Lib.hid (HB4.out.trans hb5)
  clear hc0 hc1 hc2 hc3 hc4 hc5 hc6 hc7 hc8 hc9 hc10 hc11 hc12 hz1 hz2 hy5 hk5 hs5 hb5 HX4 HY4 HB4
  generalize ((w4.setCell ⟨w.heap.size, 11, none⟩ (.int .i64 author)).setCell ⟨w.heap.size, 12, none⟩ (.string D)) = w5 at hx5 HY5 HK5 HS5 HB5 ⊢
  obtain ⟨hc0, hc1, hc2, hc3, hc4, hc5, hc6, hc7, hc8, hc9, hc10, hc11, hc12⟩ := stm_cells (A := A2) (n := n2) (c := c2) (B := B2) (m := m2) (k := k2) (s := ⟨author, number, prev, time, kind, a, b, cc, list, pins, body, author, D⟩) hx5
  refine wpGrow_nil ?_
  refine wpQuiet_nil ?_
  go_wp2_with (refine wpList_store_row rfl 48 (.tmp 2) (.tmp 11) rfl (w.heap.size + 1) #[.int .i64 author, .int .i64 number, .string prev, .int .i64 time, .int .i64 kind, .int .i64 a, .int .i64 b, .int .i64 cc, .slice A2 n2 c2, .slice B2 m2 k2, .string body, .int .i64 author, .string D] rfl rfl 48 _ HY5.out (by kernel_rfl) rfl (by simp [Value.oneCell']) ?_)
  have hfin : ∀ k, G + 1 ≤ k → (w5.setRow (w.heap.size + 1) #[.int .i64 author, .int .i64 number, .string prev, .int .i64 time, .int .i64 kind, .int .i64 a, .int .i64 b, .int .i64 cc, .slice A2 n2 c2, .slice B2 m2 k2, .string body, .int .i64 author, .string D]).heap[k]? = w4.heap[k]? := fun k hk => (setRow_other _ _ _ _ (by omega)).trans (HK5.out k hk)
  refine bodyPost_ret (v := .agg #[.int .i64 author, .int .i64 number, .string prev, .int .i64 time, .int .i64 kind, .int .i64 a, .int .i64 b, .int .i64 cc, .slice A2 n2 c2, .slice B2 m2 k2, .string body, .int .i64 author, .string D]) (results_cell_row rfl _ _ (w.heap.size + 1) 48 #[.int .i64 author, .int .i64 number, .string prev, .int .i64 time, .int .i64 kind, .int .i64 a, .int .i64 b, .int .i64 cc, .slice A2 n2 c2, .slice B2 m2 k2, .string body, .int .i64 author, .string D] (0, 0) _ rfl (setRow_heap _ _ _ _ _ _ HY5.out) Tryz.underlying48 rfl (by kernel_rfl)) rfl
    ⟨A2, n2, c2, B2, m2, k2, rfl, Row.keep HL4.out fun ad hA _ _ => hfin _ (HNA.out ad hA), Row.keep HP4.out fun ad hA _ _ => hfin _ (HNB.out ad hA), fun ad hA => ⟨by have := HNA.out ad hA; omega, by rw [setRow_size, HS5.out]; exact HMA.out ad hA⟩, fun ad hA => ⟨by have := HNB.out ad hA; omega, by rw [setRow_size, HS5.out]; exact HMB.out ad hA⟩, below_setRow HB5.out (by omega) _⟩
end Go.Proofs.YtnmpbjgccbnomaaGreat
/- The walk of the reference's Sealed. -/
namespace Go.Proofs.YtnmpbjgccbnomaaGreat
open Go.RowKit
set_option maxRecDepth 100000 in
set_option maxHeartbeats 1000000 in
theorem refSealed_any (s : Stm) (A : Option Addr) (n c : Nat) (B : Option Addr) (m k : Nat) (w : World) (hl : IRow w A n c s.list) (hp : PRow w B m k s.pins) (hs : Small s) :
    Calls Tryz.prog 64 #[stmV s A n c B m k] w (SaysL (.bool (sealedB s)) w) := by
  have HD : Hid (∀ w', Below w.heap.size w w' → Calls Tryz.prog 66 #[stmV s A n c B m k] w' (SaysL (.string (digS s)) w')) := Lib.hid fun w' h => refDigest_any s A n c B m k w' (hl.later h) (hp.later h) hs
  clear hl hp hs
  have HS : Hid (sealedB s = (decide (s.key = s.author) && decide (s.dig = digS s))) := Lib.hid rfl
  generalize digS s = D at HD HS
  generalize sealedB s = R at HS ⊢
  obtain ⟨author, number, prev, time, kind, a, b, cc, list, pins, body, key, dig⟩ := s
  unfold stmV at *
  simp only at HS
  go_enter Tryz.func64, Tryz.ntmps64
  go_wp2_with fail
  refine wp_region_grow (by kernel_rfl) Later Later.refl (fun _ _ _ => Later.trans) [12, 13, 14] [([0, 1, 2, 3, 4, 5, 6, 7, 8, 9, 10], 11)] (by kernel_rfl) (by kernel_rfl) (by kernel_rfl) ?_
  simp only [List.map_cons, List.map_nil, pick, List.getD_cons_zero, List.getD_cons_succ]
  have hb0 : Below w.heap.size w (w.alloc (.cells #[.int .i64 author, .int .i64 number, .string prev, .int .i64 time, .int .i64 kind, .int .i64 a, .int .i64 b, .int .i64 cc, .slice A n c, .slice B m k, .string body, .int .i64 key, .string dig] 48)).drew := (one_new w _).drew
  have hx0 : (w.alloc (.cells #[.int .i64 author, .int .i64 number, .string prev, .int .i64 time, .int .i64 kind, .int .i64 a, .int .i64 b, .int .i64 cc, .slice A n c, .slice B m k, .string body, .int .i64 key, .string dig] 48)).drew.heap[w.heap.size]? = _ := heap_alloc_new w (.cells #[.int .i64 author, .int .i64 number, .string prev, .int .i64 time, .int .i64 kind, .int .i64 a, .int .i64 b, .int .i64 cc, .slice A n c, .slice B m k, .string body, .int .i64 key, .string dig] 48)
  have hz0 : w.heap.size < (w.alloc (.cells #[.int .i64 author, .int .i64 number, .string prev, .int .i64 time, .int .i64 kind, .int .i64 a, .int .i64 b, .int .i64 cc, .slice A n c, .slice B m k, .string body, .int .i64 key, .string dig] 48)).drew.heap.size := by show _ < (w.alloc _).heap.size; simp
  generalize (w.alloc (.cells #[.int .i64 author, .int .i64 number, .string prev, .int .i64 time, .int .i64 kind, .int .i64 a, .int .i64 b, .int .i64 cc, .slice A n c, .slice B m k, .string body, .int .i64 key, .string dig] 48)).drew = w1 at hb0 hx0 hz0 ⊢
  obtain ⟨hf0, hf1, hf2, hf3, hf4, hf5, hf6, hf7, hf8, hf9, hf10, hf11, hf12⟩ := stm_futs (F := Later) Later.refl (s := ⟨author, number, prev, time, kind, a, b, cc, list, pins, body, key, dig⟩) (W := w1) (fun w' h => h.block _ hz0) hx0
  have HB1 := Lib.hid hb0; clear hb0 hx0 hz0
  by_cases e1 : key = author
  · have g1 : (key == author) = true := by simpa using e1
    have HE1 := Lib.hid e1; clear e1
    refine wpGrow_cons ?_
    repeat (go_big_quiet_step (fail))
    refine wpQuiet_nil ?_
    clear hf0 hf1 hf2 hf3 hf4 hf5 hf6 hf7 hf8 hf9 hf10 hf11 hf12
    go_wp2_with fail
    refine (HD.out w1 HB1.out).mono ?_
    rintro e w2 ⟨rfl, hb⟩
    have HB2 := Lib.hid (HB1.out.trans (hb.mono HB1.out.size)); have HF : Hid (Later w1 w2) := Lib.hid hb; clear hb HB1
    go_wp2_with fail
    refine pieceEnd_normal ⟨HF.out, ?_⟩
    clear HF
    cases e2 : (dig.toList == D.toList)
    · have HV : Hid (R = false) := by unfold Hid; rw [HS.out, ← toList_beq, e2]; simp
      refine wpGrow_nil ?_
      repeat (go_big_quiet_step (fail))
      refine wpQuiet_nil ?_
      go_wp2
      go_ret
      exact ⟨by rw [HV.out]; rfl, HB2.out⟩
    · have HV : Hid (R = true) := by unfold Hid; rw [HS.out, ← toList_beq, e2]; simp [HE1.out]
      refine wpGrow_nil ?_
      repeat (go_big_quiet_step (fail))
      refine wpQuiet_nil ?_
      go_wp2
      go_ret
      exact ⟨by rw [HV.out]; rfl, HB2.out⟩
  · have g1 : (key == author) = false := by simpa using e1
    have HV : Hid (R = false) := by unfold Hid; rw [HS.out]; simp [e1]
    refine wpGrow_cons ?_
    repeat (go_big_quiet_step (fail))
    refine wpQuiet_nil ?_
    clear hf0 hf1 hf2 hf3 hf4 hf5 hf6 hf7 hf8 hf9 hf10 hf11 hf12
    go_wp2_with fail
    refine pieceEnd_normal ⟨Later.refl _, ?_⟩
    refine wpGrow_nil ?_
    repeat (go_big_quiet_step (fail))
    refine wpQuiet_nil ?_
    go_wp2
    go_ret
    exact ⟨by rw [HV.out]; rfl, HB1.out⟩
end Go.Proofs.YtnmpbjgccbnomaaGreat
/- The walks of the reference's Check. -/
namespace Go.Proofs.YtnmpbjgccbnomaaGreat
open Go.RowKit
theorem refIn_any (v hi : Int) (w : World) : Calls Tryz.prog 88 #[.int .i64 v, .int .i64 hi] w (Says (.bool (btw v 0 hi)) w) := by
  cases h1 : decide (0 ≤ v) <;> cases h2 : decide (v ≤ hi)
  all_goals
    go_enter Tryz.func88, Tryz.ntmps88
    go_wp2
    go_ret
    exact ⟨by simp [btw, h1, h2], rfl⟩
theorem refKey_any (v : Int) (w : World) : Calls Tryz.prog 87 #[.int .i64 v] w (Says (.bool (isKeyB v)) w) := by
  have hb : isKeyB v = (decide (0 ≤ v) && decide (v < 64)) := by
    unfold isKeyB btw
    have : decide (v ≤ 63) = decide (v < 64) := by simp only [decide_eq_decide]; omega
    rw [this]
  rw [hb]
  cases h1 : decide (0 ≤ v) <;> cases h2 : decide (v < 64)
  all_goals
    go_enter Tryz.func87, Tryz.ntmps87
    go_wp2
    go_ret
    exact ⟨by simp, rfl⟩
set_option maxHeartbeats 2000000 in
theorem refPins_any (A : Option Addr) (n c : Nat) (l : List PinD) (w : World) (hr : PRow w A n c l) (hn : n ≤ 1000000) : Calls Tryz.prog 90 #[.slice A n c] w (SaysL (.bool (pinsB l)) w) := by
  have HR := Lib.hid hr; have HL := Lib.hid hr.len; clear hr
  go_enter Tryz.func90, Tryz.ntmps90
  go_wp2
  go_loopw [3] (fun i wr => ∃ k : Nat, k ≤ n ∧ i = .int .i64 k ∧ Hid ((List.range k).all (pinB l) = true ∧ Below w.heap.size w wr)) (fun i _ => n - (intOf i).toNat)
  case atStart => exact ⟨0, Nat.zero_le _, rfl, Lib.hid ⟨rfl, Below.refl _ _⟩⟩
  case round =>
    obtain ⟨k, hk, rfl, HQ⟩ := hrel
    by_cases hlt : k < n
    · obtain ⟨b, off, hA, hc0, hc1, hc2⟩ := (HR.out.later HQ.out.2).cells k hlt
      have hprev : k ≠ 0 → wr.cell? ⟨b, off + (k - 1) * 3, none⟩ = some (.int .i64 (l.getD (k - 1) noPin).author) := by
        intro h0
        obtain ⟨b', off', hA', hp, -, -⟩ := (HR.out.later HQ.out.2).cells (k - 1) (by omega)
        rw [hA] at hA'; injection hA' with hA'; injection hA' with h1 h2; subst h1; subst h2; exact hp
      subst hA
      have HB : Hid (pinB l k = (isKeyB (l.getD k noPin).author && btw (l.getD k noPin).height 1 200 && (((l.getD k noPin).digest.size : Int) == 32) && (k == 0 || decide ((l.getD (k - 1) noPin).author < (l.getD k noPin).author)))) := Lib.hid rfl
      generalize l.getD k noPin = p at hc0 hc1 hc2 HB
      generalize (l.getD (k - 1) noPin).author = q at hprev HB
      have HP := Lib.hid hprev; clear hprev
      have no : pinB l k = false → pinsB l = false := fun h => by rw [pinsB, HL.out]; exact all_no hlt h
      have NO := Lib.hid no; clear no
      obtain ⟨x1, x2, x3⟩ := p
      simp only at hc0 hc1 hc2 HB
      have hbw : Below w.heap.size w (wr.alloc (.cells #[.int .i64 x1, .int .i64 x2, .string x3] 122)) := HQ.out.2.alloc HQ.out.2.size _
      have hn0 : (wr.alloc (.cells #[.int .i64 x1, .int .i64 x2, .string x3] 122)).cell? ⟨wr.heap.size, 0, none⟩ = some (.int .i64 x1) := by rw [cell_of_row _ _ _ _ _ _ (heap_alloc_new _ _)]; rfl
      have hn1 : (wr.alloc (.cells #[.int .i64 x1, .int .i64 x2, .string x3] 122)).cell? ⟨wr.heap.size, 1, none⟩ = some (.int .i64 x2) := by rw [cell_of_row _ _ _ _ _ _ (heap_alloc_new _ _)]; rfl
      have hn2 : (wr.alloc (.cells #[.int .i64 x1, .int .i64 x2, .string x3] 122)).cell? ⟨wr.heap.size, 2, none⟩ = some (.string x3) := by rw [cell_of_row _ _ _ _ _ _ (heap_alloc_new _ _)]; rfl
      have hpo : k ≠ 0 → (wr.alloc (.cells #[.int .i64 x1, .int .i64 x2, .string x3] 122)).cell? ⟨b, off + (k - 1) * 3, none⟩ = some (.int .i64 q) := fun h0 => by
        rw [World.cell?_of_block (w := wr) (a := ⟨b, off + (k - 1) * 3, none⟩) ((one_new _ _).block b (World.block_lt_of_cell? wr (a := ⟨b, off + (k - 1) * 3, none⟩) (HP.out h0)))]; exact HP.out h0
      have HPO := Lib.hid hpo; have HN0 := Lib.hid hn0; have HN1 := Lib.hid hn1; have HN2 := Lib.hid hn2; have HW := Lib.hid hbw; clear hpo hn0 hn1 hn2 hbw HP
      go_wp2_with fail
      clear hc0 hc1 hc2
      have hn0 := HN0.out; have hn1 := HN1.out; have hn2 := HN2.out; clear HN0 HN1 HN2
      generalize wr.alloc (.cells #[.int .i64 x1, .int .i64 x2, .string x3] 122) = w2 at hn0 hn1 hn2 HPO HW ⊢
      have HQ1 := Lib.hid HQ.out.1; clear HQ
      cases g1 : isKeyB x1
      · have HV : Hid (pinB l k = false) := by unfold Hid; rw [HB.out]; rw [g1]; rfl
        go_quiet ((go_at_call 87; exact Calls.quiet_of_same ((refKey_any _ _).mono (fun _ _ ⟨h1, h2⟩ => ⟨by rw [g1] at h1; exact h1, h2.symm⟩))))
        go_wp2
        go_ret
        exact ⟨by rw [NO.out HV.out]; rfl, below_nq HW.out _⟩
      by_cases h0 : k = 0
      · have h1 : (k : Int) = 0 := by omega
        have HK : Hid ((k == 0) = true) := by unfold Hid; simpa using h0
        clear HPO
        by_cases g2 : x2 < 1
        · have HV : Hid (pinB l k = false) := by unfold Hid; rw [HB.out]; rw [g1]; simp [btw, show ¬ (1 ≤ x2) by omega]
          go_quiet ((go_at_call 87; exact Calls.quiet_of_same ((refKey_any _ _).mono (fun _ _ ⟨h1, h2⟩ => ⟨by rw [g1] at h1; exact h1, h2.symm⟩))))
          go_wp2
          go_ret
          exact ⟨by rw [NO.out HV.out]; rfl, below_nq HW.out _⟩
        by_cases g3 : 200 < x2
        · have HV : Hid (pinB l k = false) := by unfold Hid; rw [HB.out]; rw [g1]; simp [btw, show ¬ (x2 ≤ 200) by omega]
          go_quiet ((go_at_call 87; exact Calls.quiet_of_same ((refKey_any _ _).mono (fun _ _ ⟨h1, h2⟩ => ⟨by rw [g1] at h1; exact h1, h2.symm⟩))))
          go_wp2
          go_ret
          exact ⟨by rw [NO.out HV.out]; rfl, below_nq HW.out _⟩
        have HT : Hid (btw x2 1 200 = true) := by unfold Hid; simp [btw]; omega
        cases g4 : ((x3.size : Int) == 32)
        · have g5 : ((x3.size : Int) != 32) = true := by simp only [bne, g4]; rfl
          have HV : Hid (pinB l k = false) := by unfold Hid; rw [HB.out]; rw [g1, HT.out, g4]; rfl
          go_quiet ((go_at_call 87; exact Calls.quiet_of_same ((refKey_any _ _).mono (fun _ _ ⟨h1, h2⟩ => ⟨by rw [g1] at h1; exact h1, h2.symm⟩))))
          go_wp2
          go_ret
          exact ⟨by rw [NO.out HV.out]; rfl, below_nq HW.out _⟩
        · have g5 : ((x3.size : Int) != 32) = false := by simp only [bne, g4]; rfl
          have HV : Hid (pinB l k = true) := by unfold Hid; rw [HB.out]; rw [g1, HT.out, g4, HK.out]; rfl
          go_quiet ((go_at_call 87; exact Calls.quiet_of_same ((refKey_any _ _).mono (fun _ _ ⟨h1, h2⟩ => ⟨by rw [g1] at h1; exact h1, h2.symm⟩))))
          go_wp2
          refine ⟨⟨k + 1, hlt, by go_num, Lib.hid ⟨all_more HQ1.out HV.out, below_nq HW.out _⟩⟩, by simp [intOf]; omega⟩
      · have hp := HPO.out h0
        have e0 : (0 : Int) ≤ (k : Int) - 1 := by omega
        have e1 : (k : Int) - 1 < n := by omega
        have e2 : ((k : Int) - 1).toNat = k - 1 := by omega
        have HK : Hid ((k == 0) = false) := by unfold Hid; simpa using h0
        have e4 : 0 < k := by omega
        have e5 : decide (0 < k) = true := decide_eq_true e4
        clear HPO
        by_cases h2 : q < x1
        · have h3 : ¬ x1 ≤ q := by omega
          have HO : Hid (decide (q < x1) = true) := Lib.hid (decide_eq_true h2)
          clear h2
          by_cases g2 : x2 < 1
          · have HV : Hid (pinB l k = false) := by unfold Hid; rw [HB.out]; rw [g1]; simp [btw, show ¬ (1 ≤ x2) by omega]
            go_quiet ((go_at_call 87; exact Calls.quiet_of_same ((refKey_any _ _).mono (fun _ _ ⟨h1, h2⟩ => ⟨by rw [g1] at h1; exact h1, h2.symm⟩))))
            go_wp2
            go_ret
            exact ⟨by rw [NO.out HV.out]; rfl, below_nq HW.out _⟩
          by_cases g3 : 200 < x2
          · have HV : Hid (pinB l k = false) := by unfold Hid; rw [HB.out]; rw [g1]; simp [btw, show ¬ (x2 ≤ 200) by omega]
            go_quiet ((go_at_call 87; exact Calls.quiet_of_same ((refKey_any _ _).mono (fun _ _ ⟨h1, h2⟩ => ⟨by rw [g1] at h1; exact h1, h2.symm⟩))))
            go_wp2
            go_ret
            exact ⟨by rw [NO.out HV.out]; rfl, below_nq HW.out _⟩
          have HT : Hid (btw x2 1 200 = true) := by unfold Hid; simp [btw]; omega
          cases g4 : ((x3.size : Int) == 32)
          · have g5 : ((x3.size : Int) != 32) = true := by simp only [bne, g4]; rfl
            have HV : Hid (pinB l k = false) := by unfold Hid; rw [HB.out]; rw [g1, HT.out, g4]; rfl
            go_quiet ((go_at_call 87; exact Calls.quiet_of_same ((refKey_any _ _).mono (fun _ _ ⟨h1, h2⟩ => ⟨by rw [g1] at h1; exact h1, h2.symm⟩))))
            go_wp2
            go_ret
            exact ⟨by rw [NO.out HV.out]; rfl, below_nq HW.out _⟩
          · have g5 : ((x3.size : Int) != 32) = false := by simp only [bne, g4]; rfl
            have HV : Hid (pinB l k = true) := by unfold Hid; rw [HB.out]; rw [g1, HT.out, g4, HK.out, HO.out]; rfl
            go_quiet ((go_at_call 87; exact Calls.quiet_of_same ((refKey_any _ _).mono (fun _ _ ⟨h1, h2⟩ => ⟨by rw [g1] at h1; exact h1, h2.symm⟩))))
            go_wp2
            refine ⟨⟨k + 1, hlt, by go_num, Lib.hid ⟨all_more HQ1.out HV.out, below_nq HW.out _⟩⟩, by simp [intOf]; omega⟩
        · have h3 : x1 ≤ q := by omega
          have HO : Hid (decide (q < x1) = false) := Lib.hid (decide_eq_false h2)
          clear h2
          have HV : Hid (pinB l k = false) := by unfold Hid; rw [HB.out]; rw [g1, HK.out, HO.out]; cases btw x2 1 200 <;> cases ((x3.size : Int) == 32) <;> rfl
          go_quiet ((go_at_call 87; exact Calls.quiet_of_same ((refKey_any _ _).mono (fun _ _ ⟨h1, h2⟩ => ⟨by rw [g1] at h1; exact h1, h2.symm⟩))))
          go_wp2
          go_ret
          exact ⟨by rw [NO.out HV.out]; rfl, below_nq HW.out _⟩
    · have HE : Hid (k = n) := by unfold Hid; omega
      go_wp2
      go_ret
      exact ⟨by rw [pinsB, HL.out, ← HE.out, HQ.out.1]; rfl, HQ.out.2⟩
end Go.Proofs.YtnmpbjgccbnomaaGreat
/- The walks of the reference's numbers and Check. -/
namespace Go.Proofs.YtnmpbjgccbnomaaGreat
open Go.RowKit
set_option maxHeartbeats 2000000 in
theorem refNumbers_any (s : Stm) (A : Option Addr) (n c : Nat) (B : Option Addr) (m k : Nat) (w : World) (hl : IRow w A n c s.list) (hn : n ≤ 1000000) :
    Calls Tryz.prog 89 #[stmV s A n c B m k] w (SaysL (.bool (rangeB s)) w) := by
  have HL := Lib.hid hl; have HN := Lib.hid hl.len; clear hl
  obtain ⟨author, number, prev, time, kind, a, b, cc, list, pins, body, key, dig⟩ := s
  have HS : Hid (rangeB ⟨author, number, prev, time, kind, a, b, cc, list, pins, body, key, dig⟩ = (btw number 0 199 && isValueB a && isValueB b && isValueB cc && listB' list && (if kind = 1 then isKeyB a && (a != author) && btw b 1 3 && btw cc time 2147483648 else if kind = 2 then btw a 0 199 && (b == 0) && (cc == 0) else if kind = 3 then (a == 0) && (b == 0) && (cc == 0) else true))) := Lib.hid rfl
  unfold stmV
  simp only at HL HN
  generalize rangeB _ = R at HS ⊢
  go_enter Tryz.func89, Tryz.ntmps89
  go_wp2_with fail
  refine (refIn_any _ _ _).mono ?_
  rintro e w1 ⟨rfl, rfl⟩
  cases g1 : btw number 0 199
  · go_wp2
    go_ret
    exact ⟨by rw [HS.out, g1]; rfl, one_new _ _⟩
  go_wp2_with fail
  refine (refIn_any _ _ _).mono ?_
  rintro e w1 ⟨rfl, rfl⟩
  rw [show btw a 0 1099511627776 = isValueB a from rfl]
  cases g2 : isValueB a
  · go_wp2
    go_ret
    exact ⟨by rw [HS.out, g1, g2]; rfl, one_new _ _⟩
  go_wp2_with fail
  refine (refIn_any _ _ _).mono ?_
  rintro e w1 ⟨rfl, rfl⟩
  rw [show btw b 0 1099511627776 = isValueB b from rfl]
  cases g3 : isValueB b
  · go_wp2
    go_ret
    exact ⟨by rw [HS.out, g1, g2, g3]; rfl, one_new _ _⟩
  go_wp2_with fail
  refine (refIn_any _ _ _).mono ?_
  rintro e w1 ⟨rfl, rfl⟩
  rw [show btw cc 0 1099511627776 = isValueB cc from rfl]
  cases g4 : isValueB cc
  · go_wp2
    go_ret
    exact ⟨by rw [HS.out, g1, g2, g3, g4]; rfl, one_new _ _⟩
  have HS2 : Hid (R = (listB' list && (if kind = 1 then isKeyB a && (a != author) && btw b 1 3 && btw cc time 2147483648 else if kind = 2 then btw a 0 199 && (b == 0) && (cc == 0) else if kind = 3 then (a == 0) && (b == 0) && (cc == 0) else true))) := by unfold Hid; rw [HS.out, g1, g2, g3, g4]; rfl
  clear HS g1 g2 g3 g4
  have HX := Lib.hid (HL.out.later (one_new w (.cells #[.int .i64 author, .int .i64 number, .string prev, .int .i64 time, .int .i64 kind, .int .i64 a, .int .i64 b, .int .i64 cc, .slice A n c, .slice B m k, .string body, .int .i64 key, .string dig] 48)))
  go_wp2
  go_loopw [3] (fun i wr => ∃ j : Nat, j ≤ n ∧ i = .int .i64 j ∧ wr = w.alloc (.cells #[.int .i64 author, .int .i64 number, .string prev, .int .i64 time, .int .i64 kind, .int .i64 a, .int .i64 b, .int .i64 cc, .slice A n c, .slice B m k, .string body, .int .i64 key, .string dig] 48) ∧ Hid ((List.range j).all (fun i => isValueB (list.getD i 0)) = true)) (fun i _ => n - (intOf i).toNat)
  case atStart => exact ⟨0, Nat.zero_le _, rfl, rfl, Lib.hid rfl⟩
  case round =>
    obtain ⟨j, hj, rfl, rfl, HQ⟩ := hrel
    by_cases hlt : j < n
    · obtain ⟨ab, off, hA, hc0⟩ := HX.out.cell j hlt
      subst hA
      have NO : Hid (isValueB (list.getD j 0) = false → listB' list = false) := Lib.hid fun h => by rw [listB', HN.out]; exact all_no hlt h
      have YES : Hid (isValueB (list.getD j 0) = true → (List.range (j + 1)).all (fun i => isValueB (list.getD i 0)) = true) := Lib.hid fun h => all_more HQ.out h
      clear HX
      generalize list.getD j 0 = x at hc0 NO YES
      go_wp2_with fail
      refine (refIn_any _ _ _).mono ?_
      rintro e w1 ⟨rfl, rfl⟩
      rw [show btw x 0 1099511627776 = isValueB x from rfl]
      cases g1 : isValueB x
      · go_wp2
        go_ret
        exact ⟨by rw [HS2.out, NO.out g1]; rfl, one_new _ _⟩
      · go_wp2
        refine ⟨⟨j + 1, hlt, by go_num, by simp, Lib.hid (YES.out g1)⟩, by simp [intOf]; omega⟩
    · have HE : Hid (j = n) := by unfold Hid; omega
      have HS3 : Hid (R = (if kind = 1 then isKeyB a && (a != author) && btw b 1 3 && btw cc time 2147483648 else if kind = 2 then btw a 0 199 && (b == 0) && (cc == 0) else if kind = 3 then (a == 0) && (b == 0) && (cc == 0) else true)) := by unfold Hid; rw [HS2.out, listB', HN.out, ← HE.out, HQ.out]; rfl
      clear HX HS2 HQ
      by_cases k1 : kind = 1
      · subst k1
        have HS4 : Hid (R = (isKeyB a && (a != author) && btw b 1 3 && btw cc time 2147483648)) := by unfold Hid; rw [HS3.out]; rfl
        clear HS3
        go_wp2_with fail
        refine (refKey_any _ _).mono ?_
        rintro e w1 ⟨rfl, rfl⟩
        cases g1 : isKeyB a
        · go_wp2
          go_ret
          exact ⟨by rw [HS4.out, g1]; rfl, one_new _ _⟩
        cases g2 : (a != author)
        · go_wp2
          go_ret
          exact ⟨by rw [HS4.out, g1, g2]; rfl, one_new _ _⟩
        by_cases h1 : 1 ≤ b
        · by_cases h2 : b ≤ 3
          · by_cases h3 : time ≤ cc
            · by_cases h4 : cc ≤ 2147483648
              · have HV : Hid (R = true) := by unfold Hid; rw [HS4.out, g1, g2]; simp [btw, h1, h2, h3, h4]
                go_wp2
                go_ret
                exact ⟨by rw [HV.out]; rfl, one_new _ _⟩
              · have HV : Hid (R = false) := by unfold Hid; rw [HS4.out, g1, g2]; simp [btw, h1, h2, h3, h4]
                go_wp2
                go_ret
                exact ⟨by rw [HV.out]; show Ending.returned (.bool (decide (cc ≤ 2147483648))) = _; rw [show decide (cc ≤ 2147483648) = false by simp; omega], one_new _ _⟩
            · have HV : Hid (R = false) := by unfold Hid; rw [HS4.out, g1, g2]; simp [btw, h1, h2, h3]
              go_wp2
              go_ret
              exact ⟨by rw [HV.out]; rfl, one_new _ _⟩
          · have HV : Hid (R = false) := by unfold Hid; rw [HS4.out, g1, g2]; simp [btw, h1, h2]
            go_wp2
            go_ret
            exact ⟨by rw [HV.out]; rfl, one_new _ _⟩
        · have HV : Hid (R = false) := by unfold Hid; rw [HS4.out, g1, g2]; simp [btw, h1]
          go_wp2
          go_ret
          exact ⟨by rw [HV.out]; rfl, one_new _ _⟩
      by_cases k2 : kind = 2
      · subst k2
        have HS4 : Hid (R = (btw a 0 199 && (b == 0) && (cc == 0))) := by unfold Hid; rw [HS3.out]; rfl
        clear HS3
        go_wp2_with fail
        refine (refIn_any _ _ _).mono ?_
        rintro e w1 ⟨rfl, rfl⟩
        cases g1 : btw a 0 199
        · go_wp2
          go_ret
          exact ⟨by rw [HS4.out, g1]; rfl, one_new _ _⟩
        cases g2 : (b == 0)
        · go_wp2
          go_ret
          exact ⟨by rw [HS4.out, g1, g2]; rfl, one_new _ _⟩
        cases g3 : (cc == 0)
        · go_wp2
          go_ret
          exact ⟨by rw [HS4.out, g1, g2, g3]; rfl, one_new _ _⟩
        go_wp2
        go_ret
        exact ⟨by rw [HS4.out, g1, g2, g3]; rfl, one_new _ _⟩
      by_cases k3 : kind = 3
      · subst k3
        have HS4 : Hid (R = ((a == 0) && (b == 0) && (cc == 0))) := by unfold Hid; rw [HS3.out]; rfl
        clear HS3
        cases g1 : (a == 0)
        · go_wp2
          go_ret
          exact ⟨by rw [HS4.out, g1]; rfl, one_new _ _⟩
        cases g2 : (b == 0)
        · go_wp2
          go_ret
          exact ⟨by rw [HS4.out, g1, g2]; rfl, one_new _ _⟩
        cases g3 : (cc == 0)
        · go_wp2
          go_ret
          exact ⟨by rw [HS4.out, g1, g2, g3]; rfl, one_new _ _⟩
        go_wp2
        go_ret
        exact ⟨by rw [HS4.out, g1, g2, g3]; rfl, one_new _ _⟩
      have g1 : (kind == 1) = false := by simpa using k1
      have g2 : (kind == 2) = false := by simpa using k2
      have g3 : (kind == 3) = false := by simpa using k3
      have HS4 : Hid (R = true) := by unfold Hid; rw [HS3.out, if_neg k1, if_neg k2, if_neg k3]
      go_wp2
      go_ret
      exact ⟨by rw [HS4.out]; rfl, one_new _ _⟩
end Go.Proofs.YtnmpbjgccbnomaaGreat
