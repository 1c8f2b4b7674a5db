/- The walks of the reference's Digest, Sealed, Copy, Seal. -/
import Derived.Test.YtnjilfdmplbalaaGreatDoorSeal
import Derived.Test.YtnjilfdmplbalaaGreatDoorRefBytes
import Derived.Test.YtnjilfdmplbalaaGreatDoorRef
namespace Go.Proofs.YtnjilfdmplbalaaGreatDoor
open Go.RowKit
theorem refSum_str (A : Option Addr) (n c : Nat) (us : List UInt8) (w : World) (h : BRow w A n c us) (hn : n ≤ 2000000) :
    Calls Tryz.prog 92 #[.slice A n c] w (SaysL (.string (strOf (shaL us n))) w) :=
  (refSum_any A n c us w h.sliceAt (by omega)).mono fun _ _ ⟨h1, h2⟩ => ⟨by rw [h1, same_digest us n h.len], h2⟩
set_option maxRecDepth 100000 in
set_option maxHeartbeats 1000000 in
theorem refDigest_any (s : Stm) (A : Option Addr) (n c : Nat) (B : Option Addr) (m k : Nat) (w : World) (hl : IRow w A n c s.list) (hp : PRow w B m k s.pins) (hs : Small s) :
    Calls Tryz.prog 60 #[stmV s A n c B m k] w (SaysL (.string (digS s)) w) := by
  have HBY : Hid (∀ w', Below w.heap.size w w' → Calls Tryz.prog 93 #[stmV s A n c B m k] w' (GivesB w' (bodyB s))) := Lib.hid fun w' h => refBytes_any s A n c B m k w' (hl.later h) (hp.later h) hs
  have HLB := Lib.hid (body_len hs)
  have HD : Hid (digS s = strOf (shaL (bodyB s) (bodyB s).length)) := Lib.hid rfl
  clear hl hp hs
  generalize digS s = D at HD ⊢
  generalize bodyB s = R at HD HLB HBY
  obtain ⟨author, number, prev, time, kind, a, b, cc, list, pins, body, key, dig⟩ := s
  unfold stmV at HBY ⊢
  go_enter Tryz.func60, Tryz.ntmps60
  go_wp2_with fail
  refine (HBY.out _ (one_new _ _)).mono ?_
  rintro e w1 ⟨A1, m1, c1, rfl, hm1, hr1, -, hb⟩
  have HB1 := Lib.hid ((one_new w _).trans (hb.mono (by simp)))
  have HR1 := Lib.hid hr1; clear hb hr1 HBY
  subst hm1
  have hlen := HLB.out
  go_wp2_with fail
  refine (refSum_str A1 _ c1 R w1 HR1.out (by omega)).mono ?_
  rintro e w2 ⟨rfl, hb2⟩
  go_wp2
  go_ret
  exact ⟨by rw [HD.out]; rfl, HB1.out.trans (hb2.mono HB1.out.size)⟩
theorem pin_info : (Tryz.prog.info? 57).map (fun i => (i.zero, i.size, i.bytes)) = some (some (.agg #[.int .i64 0, .int .i64 0, .string ⟨#[]⟩]), 3, 32) := by kernel_rfl
/-- A call that returns a statement. -/
def GivesS (w : World) (s : Stm) (e : Ending) (w' : World) : Prop := ∃ A n c B m k, e = .returned (stmV s A n c B m k) ∧ IRow w' A n c s.list ∧ PRow w' B m k s.pins ∧ New w w' A ∧ New w w' B ∧ Below w.heap.size w w'
set_option maxRecDepth 100000 in
set_option maxHeartbeats 2000000 in
theorem copy_any (s : Stm) (A : Option Addr) (n c : Nat) (B : Option Addr) (m k : Nat) (w : World) (hl : IRow w A n c s.list) (hp : PRow w B m k s.pins) (hn : n ≤ 1000) (hm : m ≤ 1000) :
    Calls Tryz.prog 59 #[stmV s A n c B m k] w (GivesS w s) := by
  have HL := Lib.hid hl; have HP := Lib.hid hp; have HN := Lib.hid hl.len; have HM := Lib.hid hp.len
  clear hl hp
  obtain ⟨author, number, prev, time, kind, a, b, cc, list, pins, body, key, dig⟩ := s
  unfold stmV
  simp only at HL HP HN HM
  obtain ⟨G, hG⟩ : ∃ G, G = w.heap.size + 1 := ⟨_, rfl⟩
  have HGG := Lib.hid hG; clear hG
  have hb0 : Below w.heap.size w ((w.alloc (.cells #[.int .i64 author, .int .i64 number, .string prev, .int .i64 time, .int .i64 kind, .int .i64 a, .int .i64 b, .int .i64 cc, .slice A n c, .slice B m k, .string body, .int .i64 key, .string dig] 30)).alloc (.cells #[.int .i64 0, .int .i64 0, .string ⟨#[]⟩, .int .i64 0, .int .i64 0, .int .i64 0, .int .i64 0, .int .i64 0, .slice none 0 0, .slice none 0 0, .string ⟨#[]⟩, .int .i64 0, .string ⟨#[]⟩] 30)) := (one_new w _).alloc (by simp) _
  have hx0 : ((w.alloc (.cells #[.int .i64 author, .int .i64 number, .string prev, .int .i64 time, .int .i64 kind, .int .i64 a, .int .i64 b, .int .i64 cc, .slice A n c, .slice B m k, .string body, .int .i64 key, .string dig] 30)).alloc (.cells #[.int .i64 0, .int .i64 0, .string ⟨#[]⟩, .int .i64 0, .int .i64 0, .int .i64 0, .int .i64 0, .int .i64 0, .slice none 0 0, .slice none 0 0, .string ⟨#[]⟩, .int .i64 0, .string ⟨#[]⟩] 30)).heap[w.heap.size]? = _ := (Below.heap_alloc _ _ _ (by simp)).trans (heap_alloc_new w (.cells #[.int .i64 author, .int .i64 number, .string prev, .int .i64 time, .int .i64 kind, .int .i64 a, .int .i64 b, .int .i64 cc, .slice A n c, .slice B m k, .string body, .int .i64 key, .string dig] 30))
  have hy0 : ((w.alloc (.cells #[.int .i64 author, .int .i64 number, .string prev, .int .i64 time, .int .i64 kind, .int .i64 a, .int .i64 b, .int .i64 cc, .slice A n c, .slice B m k, .string body, .int .i64 key, .string dig] 30)).alloc (.cells #[.int .i64 0, .int .i64 0, .string ⟨#[]⟩, .int .i64 0, .int .i64 0, .int .i64 0, .int .i64 0, .int .i64 0, .slice none 0 0, .slice none 0 0, .string ⟨#[]⟩, .int .i64 0, .string ⟨#[]⟩] 30)).heap[(w.alloc (.cells #[.int .i64 author, .int .i64 number, .string prev, .int .i64 time, .int .i64 kind, .int .i64 a, .int .i64 b, .int .i64 cc, .slice A n c, .slice B m k, .string body, .int .i64 key, .string dig] 30)).heap.size]? = _ := heap_alloc_new (w.alloc (.cells #[.int .i64 author, .int .i64 number, .string prev, .int .i64 time, .int .i64 kind, .int .i64 a, .int .i64 b, .int .i64 cc, .slice A n c, .slice B m k, .string body, .int .i64 key, .string dig] 30)) (.cells #[.int .i64 0, .int .i64 0, .string ⟨#[]⟩, .int .i64 0, .int .i64 0, .int .i64 0, .int .i64 0, .int .i64 0, .slice none 0 0, .slice none 0 0, .string ⟨#[]⟩, .int .i64 0, .string ⟨#[]⟩] 30)
  rw [show (w.alloc (.cells #[.int .i64 author, .int .i64 number, .string prev, .int .i64 time, .int .i64 kind, .int .i64 a, .int .i64 b, .int .i64 cc, .slice A n c, .slice B m k, .string body, .int .i64 key, .string dig] 30)).heap.size = G by rw [HGG.out]; simp] at hy0
  have hz0 : ((w.alloc (.cells #[.int .i64 author, .int .i64 number, .string prev, .int .i64 time, .int .i64 kind, .int .i64 a, .int .i64 b, .int .i64 cc, .slice A n c, .slice B m k, .string body, .int .i64 key, .string dig] 30)).alloc (.cells #[.int .i64 0, .int .i64 0, .string ⟨#[]⟩, .int .i64 0, .int .i64 0, .int .i64 0, .int .i64 0, .int .i64 0, .slice none 0 0, .slice none 0 0, .string ⟨#[]⟩, .int .i64 0, .string ⟨#[]⟩] 30)).heap.size = G + 1 := by rw [HGG.out]; simp
  have HB1 := Lib.hid hb0; have HX1 := Lib.hid hx0; have HY1 := Lib.hid hy0; have HZ1 := Lib.hid hz0; clear hb0 hx0 hy0 hz0
  go_enter Tryz.func59, Tryz.ntmps59
  go_wp2_with (first
    | (at_builtin; refine wpList_app _ rfl (.const (.slice none 0 0)) (.tmp 4) 25 25 3 rfl (G + 1) Tryz.underlying25 i64_info rfl _ 0 [] (World.ownsRow_nil _ _ _ _) rfl (.slice A n c) n (intsV list) (Row.src (HL.out.later HB1.out) Tryz.underlying25 (intsV_one _)) rfl (by unfold maxLen; omega) (by omega) (by rw [HZ1.out]; exact Nat.le_refl _) ?_; intro v2 w2 ho2 hb2; rw [Nat.zero_add, List.nil_append] at ho2; obtain ⟨A2, c2, hv2, hr2⟩ := Row.of_own ho2; subst hv2; have HA2 : Hid (∀ ad, A2 = some ad → G + 1 ≤ ad.block) := Lib.hid (fun ad hA => by subst hA; exact (World.ownsRow.lt ho2 _ rfl).1); have HL2 : Hid (∀ ad, A2 = some ad → ad.block < w2.heap.size) := Lib.hid (fun ad hA => by subst hA; exact (World.ownsRow.lt ho2 _ rfl).2); have HR2 := Lib.hid hr2; have HB2 := Lib.hid (HB1.out.trans (hb2.mono (by rw [HGG.out]; omega))); have HX2 := Lib.hid ((hb2.block w.heap.size (by rw [HGG.out]; omega)).trans HX1.out); have HY2 := Lib.hid ((hb2.block G (by omega)).trans HY1.out); have HZ2 : Hid (G + 1 ≤ w2.heap.size) := Lib.hid (by have := hb2.size; rw [HZ1.out] at this; exact this); clear ho2 hb2 hr2; obtain ⟨hc0, hc1, hc2, hc3, hc4, hc5, hc6, hc7, hc8, hc9, hc10, hc11, hc12⟩ := stm_cells (s := ⟨author, number, prev, time, kind, a, b, cc, list, pins, body, key, dig⟩) HX2.out; have hz8 : w2.frozen? ⟨w.heap.size, 8, none⟩ = false := frozen_of_row _ _ _ _ _ HX2.out)
    | (at_builtin; refine wpList_appK (w2.setCell ⟨w.heap.size, 8, none⟩ (.slice A2 n c2)) rfl (.const (.slice none 0 0)) (.tmp 8) 26 26 57 rfl (G + 1) Tryz.underlying26 pin_info rfl _ 0 [] (World.ownsRow_nil _ _ _ _) rfl (.slice B m k) m (pinsC pins) (Row.src (HP.out.later (HB2.out.setCell (Nat.le_refl _) _)) Tryz.underlying26 (pinsC_one _)) rfl (by unfold maxLen; omega) (by omega) (by rw [World.size_setCell]; exact HZ2.out) ?_; intro v3 w3 ho3 hb3 hk3; rw [Nat.zero_add, List.nil_append] at ho3; obtain ⟨B3, k3, hv3, hr3⟩ := Row.of_own ho3; subst hv3; have HA3 : Hid (∀ ad, B3 = some ad → G + 1 ≤ ad.block) := Lib.hid (fun ad hA => by subst hA; exact (World.ownsRow.lt ho3 _ rfl).1); have HM3 : Hid (∀ ad, B3 = some ad → ad.block < w3.heap.size) := Lib.hid (fun ad hA => by subst hA; exact (World.ownsRow.lt ho3 _ rfl).2); have HL3 : Hid (∀ ad, A2 = some ad → ad.block < w3.heap.size) := Lib.hid (fun ad hA => Nat.lt_of_lt_of_le (HL2.out ad hA) (by have := hb3.size; rw [World.size_setCell] at this; exact this)); have HK3 : Hid (∀ k, k < w2.heap.size → w3.heap[k]? = (w2.setCell ⟨w.heap.size, 8, none⟩ (.slice A2 n c2)).heap[k]?) := Lib.hid (fun k hk => hk3 k (by rw [World.size_setCell]; exact hk) (by intro e; cases e)); clear hk3; have HR3 := Lib.hid hr3; have HB3 := Lib.hid ((HB2.out.setCell (p := ⟨w.heap.size, 8, none⟩) (Nat.le_refl _) (.slice A2 n c2)).trans (hb3.mono (by rw [HGG.out]; omega))); clear hc0 hc1 hc2 hc3 hc4 hc5 hc6 hc7 hc8 hc9 hc10 hc11 hc12 hz8; have HX3 := Lib.hid ((hb3.block w.heap.size (by rw [HGG.out]; omega)).trans (heap_setCell_same w2 w.heap.size 8 _ _ _ HX2.out)); have HY3 := Lib.hid ((hb3.block G (by omega)).trans ((Below.heap_setCell _ _ _ _ (by rw [HGG.out]; show w.heap.size + 1 ≠ w.heap.size; omega)).trans HY2.out)); have HYS : Hid ((w3.setCell ⟨w.heap.size, 9, none⟩ (.slice B3 m k3)).heap[w.heap.size + 1]? = some (.cells #[.int .i64 0, .int .i64 0, .string ⟨#[]⟩, .int .i64 0, .int .i64 0, .int .i64 0, .int .i64 0, .int .i64 0, .slice none 0 0, .slice none 0 0, .string ⟨#[]⟩, .int .i64 0, .string ⟨#[]⟩] 30 (0, 0))) := Lib.hid (by have h := HY3.out; rw [HGG.out] at h; exact (Below.heap_setCell _ _ _ _ (by show w.heap.size + 1 ≠ w.heap.size; omega)).trans h); have HBS := Lib.hid (HB3.out.setCell (p := ⟨w.heap.size, 9, none⟩) (Nat.le_refl _) (.slice B3 m k3)); clear ho3 hb3 hr3; obtain ⟨hc0, hc1, hc2, hc3, hc4, hc5, hc6, hc7, hc8, hc9, hc10, hc11, hc12⟩ := stm_cells (A := A2) (n := n) (c := c2) (s := ⟨author, number, prev, time, kind, a, b, cc, list, pins, body, key, dig⟩) HX3.out; have hz9 : w3.frozen? ⟨w.heap.size, 9, none⟩ = false := frozen_of_row _ _ _ _ _ HX3.out)
    | refine wpList_store_row rfl 30 (.tmp 2) (.tmp 11) rfl (w.heap.size + 1) #[.int .i64 author, .int .i64 number, .string prev, .int .i64 time, .int .i64 kind, .int .i64 a, .int .i64 b, .int .i64 cc, .slice A2 n c2, .slice B3 m k3, .string body, .int .i64 key, .string dig] rfl rfl 30 _ HYS.out (by kernel_rfl) rfl (by simp [Value.oneCell']) ?_)
  have hfin : ∀ k, G + 1 ≤ k → ((w3.setCell ⟨w.heap.size, 9, none⟩ (.slice B3 m k3)).setRow (w.heap.size + 1) #[.int .i64 author, .int .i64 number, .string prev, .int .i64 time, .int .i64 kind, .int .i64 a, .int .i64 b, .int .i64 cc, .slice A2 n c2, .slice B3 m k3, .string body, .int .i64 key, .string dig]).heap[k]? = w3.heap[k]? := fun k hk => by
    rw [setRow_other _ _ _ _ (by have := HGG.out; omega)]
    exact Below.heap_setCell _ _ _ _ (by have := HGG.out; show k ≠ w.heap.size; omega)
  have hr2 : IRow ((w3.setCell ⟨w.heap.size, 9, none⟩ (.slice B3 m k3)).setRow (w.heap.size + 1) #[.int .i64 author, .int .i64 number, .string prev, .int .i64 time, .int .i64 kind, .int .i64 a, .int .i64 b, .int .i64 cc, .slice A2 n c2, .slice B3 m k3, .string body, .int .i64 key, .string dig]) A2 n c2 list := Row.keep HR2.out fun ad hA h0 hlt => by
    have h1 := HA2.out ad hA
    rw [hfin _ h1, HK3.out _ hlt]
    exact Below.heap_setCell _ _ _ _ (by have := HGG.out; show ad.block ≠ w.heap.size; omega)
  refine bodyPost_ret (v := .agg #[.int .i64 author, .int .i64 number, .string prev, .int .i64 time, .int .i64 kind, .int .i64 a, .int .i64 b, .int .i64 cc, .slice A2 n c2, .slice B3 m k3, .string body, .int .i64 key, .string dig]) (results_cell_row rfl _ _ (w.heap.size + 1) 30 #[.int .i64 author, .int .i64 number, .string prev, .int .i64 time, .int .i64 kind, .int .i64 a, .int .i64 b, .int .i64 cc, .slice A2 n c2, .slice B3 m k3, .string body, .int .i64 key, .string dig] (0, 0) _ rfl (setRow_heap _ _ _ _ _ _ HYS.out) Tryz.underlying30 rfl (by kernel_rfl)) rfl ⟨A2, n, c2, B3, m, k3, rfl, hr2, ?_, fun ad hA => ⟨by have := HA2.out ad hA; have := HGG.out; omega, by rw [setRow_size, World.size_setCell]; exact HL3.out ad hA⟩, fun ad hA => ⟨by have := HA3.out ad hA; have := HGG.out; omega, by rw [setRow_size, World.size_setCell]; exact HM3.out ad hA⟩, below_setRow HBS.out (by omega) _⟩
  exact Row.keep HR3.out fun ad hA h0 hlt => hfin _ (HA3.out ad hA)
/-- Below B nothing turns, nor does one cell. -/
def KeepC (B : Nat) (p : Addr) (a b : World) : Prop := Below B a b ∧ b.cell? p = a.cell? p
theorem KeepC.refl (B : Nat) (p : Addr) (a : World) : KeepC B p a a := ⟨Below.refl _ _, rfl⟩
theorem KeepC.trans {B : Nat} {p : Addr} {a b c : World} (h : KeepC B p a b) (k : KeepC B p b c) : KeepC B p a c := ⟨h.1.trans k.1, k.2.trans h.2⟩
theorem digS_congr (s : Stm) (x : Int) (d : ByteArray) : digS { s with key := x, dig := d } = digS s := rfl
set_option maxRecDepth 100000 in
set_option maxHeartbeats 2000000 in
theorem refSeal_any (s : Stm) (A : Option Addr) (n c : Nat) (B : Option Addr) (m k : Nat) (w : World) (hl : IRow w A n c s.list) (hp : PRow w B m k s.pins) (hs : Small s) :
    Calls Tryz.prog 22 #[stmV s A n c B m k] w (GivesS w (sealOf s)) := by
  have hn : n ≤ 1000 := by rw [← hl.len]; exact hs.list
  have hm : m ≤ 1000 := by rw [← hp.len]; exact hs.pins
  have HCP : Hid (∀ w', Below w.heap.size w w' → Calls Tryz.prog 59 #[stmV s A n c B m k] w' (GivesS w' s)) := Lib.hid fun w' h => copy_any s A n c B m k w' (hl.later h) (hp.later h) hn hm
  have HD : Hid (∀ A n c B m k w', IRow w' A n c s.list → PRow w' B m k s.pins → Calls Tryz.prog 60 #[stmV s A n c B m k] w' (SaysL (.string (digS s)) w')) := Lib.hid fun A n c B m k w' h1 h2 => refDigest_any s A n c B m k w' h1 h2 hs
  clear hl hp hs
  unfold sealOf
  generalize digS s = D at HD ⊢
  obtain ⟨author, number, prev, time, kind, a, b, cc, list, pins, body, key, dig⟩ := s
  unfold stmV at HCP HD ⊢
  simp only at HD
  obtain ⟨G, hG⟩ : ∃ G, G = w.heap.size + 1 := ⟨_, rfl⟩
  have HGG := Lib.hid hG; clear hG
  have hb0 : Below w.heap.size w ((w.alloc (.cells #[.int .i64 author, .int .i64 number, .string prev, .int .i64 time, .int .i64 kind, .int .i64 a, .int .i64 b, .int .i64 cc, .slice A n c, .slice B m k, .string body, .int .i64 key, .string dig] 30)).alloc (.cells #[.int .i64 0, .int .i64 0, .string ⟨#[]⟩, .int .i64 0, .int .i64 0, .int .i64 0, .int .i64 0, .int .i64 0, .slice none 0 0, .slice none 0 0, .string ⟨#[]⟩, .int .i64 0, .string ⟨#[]⟩] 30)) := (one_new w _).alloc (by simp) _
  have hx0 : ((w.alloc (.cells #[.int .i64 author, .int .i64 number, .string prev, .int .i64 time, .int .i64 kind, .int .i64 a, .int .i64 b, .int .i64 cc, .slice A n c, .slice B m k, .string body, .int .i64 key, .string dig] 30)).alloc (.cells #[.int .i64 0, .int .i64 0, .string ⟨#[]⟩, .int .i64 0, .int .i64 0, .int .i64 0, .int .i64 0, .int .i64 0, .slice none 0 0, .slice none 0 0, .string ⟨#[]⟩, .int .i64 0, .string ⟨#[]⟩] 30)).heap[w.heap.size]? = _ := (Below.heap_alloc _ _ _ (by simp)).trans (heap_alloc_new w (.cells #[.int .i64 author, .int .i64 number, .string prev, .int .i64 time, .int .i64 kind, .int .i64 a, .int .i64 b, .int .i64 cc, .slice A n c, .slice B m k, .string body, .int .i64 key, .string dig] 30))
  have hy0 : ((w.alloc (.cells #[.int .i64 author, .int .i64 number, .string prev, .int .i64 time, .int .i64 kind, .int .i64 a, .int .i64 b, .int .i64 cc, .slice A n c, .slice B m k, .string body, .int .i64 key, .string dig] 30)).alloc (.cells #[.int .i64 0, .int .i64 0, .string ⟨#[]⟩, .int .i64 0, .int .i64 0, .int .i64 0, .int .i64 0, .int .i64 0, .slice none 0 0, .slice none 0 0, .string ⟨#[]⟩, .int .i64 0, .string ⟨#[]⟩] 30)).heap[(w.alloc (.cells #[.int .i64 author, .int .i64 number, .string prev, .int .i64 time, .int .i64 kind, .int .i64 a, .int .i64 b, .int .i64 cc, .slice A n c, .slice B m k, .string body, .int .i64 key, .string dig] 30)).heap.size]? = _ := heap_alloc_new (w.alloc (.cells #[.int .i64 author, .int .i64 number, .string prev, .int .i64 time, .int .i64 kind, .int .i64 a, .int .i64 b, .int .i64 cc, .slice A n c, .slice B m k, .string body, .int .i64 key, .string dig] 30)) (.cells #[.int .i64 0, .int .i64 0, .string ⟨#[]⟩, .int .i64 0, .int .i64 0, .int .i64 0, .int .i64 0, .int .i64 0, .slice none 0 0, .slice none 0 0, .string ⟨#[]⟩, .int .i64 0, .string ⟨#[]⟩] 30)
  rw [show (w.alloc (.cells #[.int .i64 author, .int .i64 number, .string prev, .int .i64 time, .int .i64 kind, .int .i64 a, .int .i64 b, .int .i64 cc, .slice A n c, .slice B m k, .string body, .int .i64 key, .string dig] 30)).heap.size = w.heap.size + 1 by simp] at hy0
  have hz0 : ((w.alloc (.cells #[.int .i64 author, .int .i64 number, .string prev, .int .i64 time, .int .i64 kind, .int .i64 a, .int .i64 b, .int .i64 cc, .slice A n c, .slice B m k, .string body, .int .i64 key, .string dig] 30)).alloc (.cells #[.int .i64 0, .int .i64 0, .string ⟨#[]⟩, .int .i64 0, .int .i64 0, .int .i64 0, .int .i64 0, .int .i64 0, .slice none 0 0, .slice none 0 0, .string ⟨#[]⟩, .int .i64 0, .string ⟨#[]⟩] 30)).heap.size = G + 1 := by rw [HGG.out]; simp
  have HB1 := Lib.hid hb0; have HX1 := Lib.hid hx0; have HY1 := Lib.hid hy0; have HZ1 := Lib.hid hz0; clear hb0 hx0 hy0 hz0
  go_enter Tryz.func22, Tryz.ntmps22
  go_wp2_with fail
  refine (HCP.out _ HB1.out).mono ?_
  rintro e w2 ⟨A2, n2, c2, B2, m2, k2, rfl, hl2, hp2, hna, hnb, hb⟩
  unfold stmV
  simp only at hl2 hp2
  have hsz := HZ1.out
  have HNA : Hid (∀ ad, A2 = some ad → G + 1 ≤ ad.block) := Lib.hid fun ad hA => by have := (hna ad hA).1; rw [hsz] at this; exact this
  have HNB : Hid (∀ ad, B2 = some ad → G + 1 ≤ ad.block) := Lib.hid fun ad hA => by have := (hnb ad hA).1; rw [hsz] at this; exact this
  have HMA2 : Hid (∀ ad, A2 = some ad → ad.block < w2.heap.size) := Lib.hid fun ad hA => (hna ad hA).2
  have HMB2 : Hid (∀ ad, B2 = some ad → ad.block < w2.heap.size) := Lib.hid fun ad hA => (hnb ad hA).2
  clear hna hnb
  have HL2 := Lib.hid hl2; have HP2 := Lib.hid hp2; have HB2 := Lib.hid (HB1.out.trans (hb.mono HB1.out.size)); have HX2 := Lib.hid ((hb.block w.heap.size (by rw [hsz, HGG.out]; omega)).trans HX1.out); have HY2 := Lib.hid ((hb.block (w.heap.size + 1) (by rw [hsz, HGG.out]; omega)).trans HY1.out); have HZ2 : Hid (G + 1 ≤ w2.heap.size) := Lib.hid (by have := hb.size; rw [hsz] at this; exact this)
  clear hl2 hp2 hb HB1 HX1 HY1 HZ1 hsz
  go_wp2_with (refine wpList_store_row rfl 30 (.tmp 1) (.tmp 4) rfl w.heap.size #[.int .i64 author, .int .i64 number, .string prev, .int .i64 time, .int .i64 kind, .int .i64 a, .int .i64 b, .int .i64 cc, .slice A2 n2 c2, .slice B2 m2 k2, .string body, .int .i64 key, .string dig] rfl rfl 30 _ HX2.out (by kernel_rfl) rfl (by simp [Value.oneCell']) ?_)
  refine wp_region_grow (by kernel_rfl) (KeepC w.heap.size ⟨w.heap.size, 0, none⟩) (KeepC.refl _ _) (fun _ _ _ => KeepC.trans) [] [([0, 1], 2), ([], 3), ([], 4), ([5], 6)] (by kernel_rfl) (by kernel_rfl) (by kernel_rfl) ?_
  simp only [List.map_cons, List.map_nil, pick, List.getD_cons_zero, List.getD_cons_succ]
  simp only [Act.put]
  have HX3 : Hid ((w2.setRow w.heap.size #[.int .i64 author, .int .i64 number, .string prev, .int .i64 time, .int .i64 kind, .int .i64 a, .int .i64 b, .int .i64 cc, .slice A2 n2 c2, .slice B2 m2 k2, .string body, .int .i64 key, .string dig]).drew.heap[w.heap.size]? = _) := Lib.hid (setRow_heap _ _ _ #[.int .i64 author, .int .i64 number, .string prev, .int .i64 time, .int .i64 kind, .int .i64 a, .int .i64 b, .int .i64 cc, .slice A2 n2 c2, .slice B2 m2 k2, .string body, .int .i64 key, .string dig] _ _ HX2.out)
  have HY3 : Hid ((w2.setRow w.heap.size #[.int .i64 author, .int .i64 number, .string prev, .int .i64 time, .int .i64 kind, .int .i64 a, .int .i64 b, .int .i64 cc, .slice A2 n2 c2, .slice B2 m2 k2, .string body, .int .i64 key, .string dig]).drew.heap[w.heap.size + 1]? = _) := Lib.hid ((setRow_other w2 w.heap.size (w.heap.size + 1) #[.int .i64 author, .int .i64 number, .string prev, .int .i64 time, .int .i64 kind, .int .i64 a, .int .i64 b, .int .i64 cc, .slice A2 n2 c2, .slice B2 m2 k2, .string body, .int .i64 key, .string dig] (by omega)).trans HY2.out)
  have HB3 : Hid (Below w.heap.size w (w2.setRow w.heap.size #[.int .i64 author, .int .i64 number, .string prev, .int .i64 time, .int .i64 kind, .int .i64 a, .int .i64 b, .int .i64 cc, .slice A2 n2 c2, .slice B2 m2 k2, .string body, .int .i64 key, .string dig]).drew) := Lib.hid ((below_setRow HB2.out (Nat.le_refl _) _).drew)
  have HL3 : Hid (IRow (w2.setRow w.heap.size #[.int .i64 author, .int .i64 number, .string prev, .int .i64 time, .int .i64 kind, .int .i64 a, .int .i64 b, .int .i64 cc, .slice A2 n2 c2, .slice B2 m2 k2, .string body, .int .i64 key, .string dig]).drew A2 n2 c2 list) := Lib.hid (Row.drew (Row.keep HL2.out fun ad hA _ _ => setRow_other _ _ _ _ (by have := HNA.out ad hA; have := HGG.out; omega)))
  have HP3 : Hid (PRow (w2.setRow w.heap.size #[.int .i64 author, .int .i64 number, .string prev, .int .i64 time, .int .i64 kind, .int .i64 a, .int .i64 b, .int .i64 cc, .slice A2 n2 c2, .slice B2 m2 k2, .string body, .int .i64 key, .string dig]).drew B2 m2 k2 pins) := Lib.hid (Row.drew (Row.keep HP2.out fun ad hA _ _ => setRow_other _ _ _ _ (by have := HNB.out ad hA; have := HGG.out; omega)))
  have HZ3 : Hid (G + 1 ≤ (w2.setRow w.heap.size #[.int .i64 author, .int .i64 number, .string prev, .int .i64 time, .int .i64 kind, .int .i64 a, .int .i64 b, .int .i64 cc, .slice A2 n2 c2, .slice B2 m2 k2, .string body, .int .i64 key, .string dig]).drew.heap.size) := Lib.hid (by show _ ≤ (w2.setRow _ _).heap.size; rw [setRow_size]; exact HZ2.out)
  have HMA3 : Hid (∀ ad, A2 = some ad → ad.block < (w2.setRow w.heap.size #[.int .i64 author, .int .i64 number, .string prev, .int .i64 time, .int .i64 kind, .int .i64 a, .int .i64 b, .int .i64 cc, .slice A2 n2 c2, .slice B2 m2 k2, .string body, .int .i64 key, .string dig]).drew.heap.size) := Lib.hid fun ad hA => by show _ < (w2.setRow _ _).heap.size; rw [setRow_size]; exact HMA2.out ad hA
  have HMB3 : Hid (∀ ad, B2 = some ad → ad.block < (w2.setRow w.heap.size #[.int .i64 author, .int .i64 number, .string prev, .int .i64 time, .int .i64 kind, .int .i64 a, .int .i64 b, .int .i64 cc, .slice A2 n2 c2, .slice B2 m2 k2, .string body, .int .i64 key, .string dig]).drew.heap.size) := Lib.hid fun ad hA => by show _ < (w2.setRow _ _).heap.size; rw [setRow_size]; exact HMB2.out ad hA
  clear HX2 HY2 HB2 HL2 HP2 HZ2 HCP HMA2 HMB2
  generalize (w2.setRow w.heap.size #[.int .i64 author, .int .i64 number, .string prev, .int .i64 time, .int .i64 kind, .int .i64 a, .int .i64 b, .int .i64 cc, .slice A2 n2 c2, .slice B2 m2 k2, .string body, .int .i64 key, .string dig]).drew = w3 at HX3 HY3 HB3 HL3 HP3 HZ3 HMA3 HMB3 ⊢
  have hf0 : ∀ x, (fut (KeepC w.heap.size ⟨w.heap.size, 0, none⟩) w3 x).cell? ⟨w.heap.size, 0, none⟩ = some (.int .i64 author) := fun x => by
    rw [(fut_ok (KeepC.refl _ _) w3 x).2, cell_of_row _ _ _ _ _ _ HX3.out]; rfl
  refine wpGrow_cons ?_
  repeat (go_big_quiet_step (fail))
  refine wpQuiet_nil ?_
  clear hf0
  obtain ⟨hc0, hc1, hc2, hc3, hc4, hc5, hc6, hc7, hc8, hc9, hc10, hc11, hc12⟩ := stm_cells (A := A2) (n := n2) (c := c2) (B := B2) (m := m2) (k := k2) (s := ⟨author, number, prev, time, kind, a, b, cc, list, pins, body, key, dig⟩) HX3.out
  go_wp2_with fail
  clear hc0 hc1 hc2 hc3 hc4 hc5 hc6 hc7 hc8 hc9 hc10 hc11 hc12
  refine pieceEnd_normal ⟨KeepC.refl _ _ _, ?_⟩
  refine wpGrow_cons ?_
  refine wpQuiet_nil ?_
  go_wp2_with fail
  refine (HD.out A2 n2 c2 B2 m2 k2 w3 HL3.out HP3.out).mono ?_
  rintro e w4 ⟨rfl, hb⟩
  have hG := HGG.out
  have HF : Hid (KeepC w.heap.size ⟨w.heap.size, 0, none⟩ w3 w4) := Lib.hid ⟨hb.mono (by have := HZ3.out; omega), hb.cell (by show w.heap.size < _; have := HZ3.out; omega)⟩
  have HX4 := Lib.hid ((hb.block w.heap.size (by have := HZ3.out; omega)).trans HX3.out); have HY4 := Lib.hid ((hb.block (w.heap.size + 1) (by have := HZ3.out; omega)).trans HY3.out); have HB4 := Lib.hid (HB3.out.trans (hb.mono HB3.out.size)); have HL4 := Lib.hid (HL3.out.later hb); have HP4 := Lib.hid (HP3.out.later hb)
  have HZ4 : Hid (w3.heap.size ≤ w4.heap.size) := Lib.hid hb.size
  have HMA : Hid (∀ ad, A2 = some ad → ad.block < w4.heap.size) := Lib.hid fun ad hA => Nat.lt_of_lt_of_le (HMA3.out ad hA) hb.size
  have HMB : Hid (∀ ad, B2 = some ad → ad.block < w4.heap.size) := Lib.hid fun ad hA => Nat.lt_of_lt_of_le (HMB3.out ad hA) hb.size
  clear hb HX3 HY3 HB3 HL3 HP3
  go_wp2_with fail
  refine pieceEnd_normal ⟨HF.out, ?_⟩
  clear HF
  refine wpGrow_cons ?_
  refine wpQuiet_nil ?_
  go_wp2_with fail
  refine pieceEnd_normal ⟨KeepC.refl _ _ _, ?_⟩
  refine wpGrow_cons ?_
  repeat (go_big_quiet_step (fail))
  refine wpQuiet_nil ?_
  obtain ⟨hc0, hc1, hc2, hc3, hc4, hc5, hc6, hc7, hc8, hc9, hc10, hc11, hc12⟩ := stm_cells (A := A2) (n := n2) (c := c2) (B := B2) (m := m2) (k := k2) (s := ⟨author, number, prev, time, kind, a, b, cc, list, pins, body, key, dig⟩) HX4.out
  have hz1 : w4.frozen? ⟨w.heap.size, 11, none⟩ = false := frozen_of_row _ _ _ _ _ HX4.out
  have hz2 : w4.frozen? ⟨w.heap.size, 12, none⟩ = false := frozen_of_row _ _ _ _ _ HX4.out
  go_wp2_with fail
  have hx5 : ((w4.setCell ⟨w.heap.size, 11, none⟩ (.int .i64 author)).setCell ⟨w.heap.size, 12, none⟩ (.string D)).heap[w.heap.size]? = some (.cells #[.int .i64 author, .int .i64 number, .string prev, .int .i64 time, .int .i64 kind, .int .i64 a, .int .i64 b, .int .i64 cc, .slice A2 n2 c2, .slice B2 m2 k2, .string body, .int .i64 author, .string D] 30 (0, 0)) := heap_setCell_same _ _ _ _ _ _ (heap_setCell_same _ _ _ _ _ _ HX4.out)
  have hy5 : ((w4.setCell ⟨w.heap.size, 11, none⟩ (.int .i64 author)).setCell ⟨w.heap.size, 12, none⟩ (.string D)).heap[w.heap.size + 1]? = _ := (Below.heap_setCell _ _ _ _ (by show w.heap.size + 1 ≠ w.heap.size; omega)).trans ((Below.heap_setCell _ _ _ _ (by show w.heap.size + 1 ≠ w.heap.size; omega)).trans HY4.out)
  have hk5 : ∀ k, G + 1 ≤ k → ((w4.setCell ⟨w.heap.size, 11, none⟩ (.int .i64 author)).setCell ⟨w.heap.size, 12, none⟩ (.string D)).heap[k]? = w4.heap[k]? := fun k hk => (Below.heap_setCell _ _ _ _ (by show k ≠ w.heap.size; omega)).trans (Below.heap_setCell _ _ _ _ (by show k ≠ w.heap.size; omega))
  have hs5 : ((w4.setCell ⟨w.heap.size, 11, none⟩ (.int .i64 author)).setCell ⟨w.heap.size, 12, none⟩ (.string D)).heap.size = w4.heap.size := by rw [World.size_setCell, World.size_setCell]
  have hb5 : Below w.heap.size w4 ((w4.setCell ⟨w.heap.size, 11, none⟩ (.int .i64 author)).setCell ⟨w.heap.size, 12, none⟩ (.string D)) := ((Below.refl _ _).setCell (p := ⟨w.heap.size, 11, none⟩) (Nat.le_refl _) _).setCell (p := ⟨w.heap.size, 12, none⟩) (Nat.le_refl _) _
  refine pieceEnd_normal ⟨⟨hb5, by rw [cell_of_row _ _ _ _ _ _ hx5, cell_of_row _ _ _ _ _ _ HX4.out]; rfl⟩, ?_⟩
  have HY5 := Lib.hid hy5; have HK5 := Lib.hid hk5; have HS5 := Lib.hid hs5; have HB5 := Lib.hid (HB4.out.trans hb5)
  clear hc0 hc1 hc2 hc3 hc4 hc5 hc6 hc7 hc8 hc9 hc10 hc11 hc12 hz1 hz2 hy5 hk5 hs5 hb5 HX4 HY4 HB4
  generalize ((w4.setCell ⟨w.heap.size, 11, none⟩ (.int .i64 author)).setCell ⟨w.heap.size, 12, none⟩ (.string D)) = w5 at hx5 HY5 HK5 HS5 HB5 ⊢
  obtain ⟨hc0, hc1, hc2, hc3, hc4, hc5, hc6, hc7, hc8, hc9, hc10, hc11, hc12⟩ := stm_cells (A := A2) (n := n2) (c := c2) (B := B2) (m := m2) (k := k2) (s := ⟨author, number, prev, time, kind, a, b, cc, list, pins, body, author, D⟩) hx5
  refine wpGrow_nil ?_
  refine wpQuiet_nil ?_
  go_wp2_with (refine wpList_store_row rfl 30 (.tmp 2) (.tmp 11) rfl (w.heap.size + 1) #[.int .i64 author, .int .i64 number, .string prev, .int .i64 time, .int .i64 kind, .int .i64 a, .int .i64 b, .int .i64 cc, .slice A2 n2 c2, .slice B2 m2 k2, .string body, .int .i64 author, .string D] rfl rfl 30 _ HY5.out (by kernel_rfl) rfl (by simp [Value.oneCell']) ?_)
  have hfin : ∀ k, G + 1 ≤ k → (w5.setRow (w.heap.size + 1) #[.int .i64 author, .int .i64 number, .string prev, .int .i64 time, .int .i64 kind, .int .i64 a, .int .i64 b, .int .i64 cc, .slice A2 n2 c2, .slice B2 m2 k2, .string body, .int .i64 author, .string D]).heap[k]? = w4.heap[k]? := fun k hk => (setRow_other _ _ _ _ (by omega)).trans (HK5.out k hk)
  refine bodyPost_ret (v := .agg #[.int .i64 author, .int .i64 number, .string prev, .int .i64 time, .int .i64 kind, .int .i64 a, .int .i64 b, .int .i64 cc, .slice A2 n2 c2, .slice B2 m2 k2, .string body, .int .i64 author, .string D]) (results_cell_row rfl _ _ (w.heap.size + 1) 30 #[.int .i64 author, .int .i64 number, .string prev, .int .i64 time, .int .i64 kind, .int .i64 a, .int .i64 b, .int .i64 cc, .slice A2 n2 c2, .slice B2 m2 k2, .string body, .int .i64 author, .string D] (0, 0) _ rfl (setRow_heap _ _ _ _ _ _ HY5.out) Tryz.underlying30 rfl (by kernel_rfl)) rfl
    ⟨A2, n2, c2, B2, m2, k2, rfl, Row.keep HL4.out fun ad hA _ _ => hfin _ (HNA.out ad hA), Row.keep HP4.out fun ad hA _ _ => hfin _ (HNB.out ad hA), fun ad hA => ⟨by have := HNA.out ad hA; omega, by rw [setRow_size, HS5.out]; exact HMA.out ad hA⟩, fun ad hA => ⟨by have := HNB.out ad hA; omega, by rw [setRow_size, HS5.out]; exact HMB.out ad hA⟩, below_setRow HB5.out (by omega) _⟩
end Go.Proofs.YtnjilfdmplbalaaGreatDoor
