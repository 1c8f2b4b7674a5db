import Derived.Test.YtnokhjpileamaaaDoorGrowAlt
import Derived.Test.YtnokhjpileamaaaDoorDice
import Derived.Test.YtnokhjpileamaaaDoorTakes
import Derived.Test.YtnokhjpileamaaaDoorSome
import Derived.Test.YtnokhjpileamaaaDoorCheck
import Derived.Test.YtnokhjpileamaaaDoorBytes
import Derived.Test.YtnokhjpileamaaaDoorRdStm
import Derived.Test.YtnokhjpileamaaaDoorRefSeal
import Derived.Test.YtnokhjpileamaaaDoorRdPins
import Derived.Test.YtnokhjpileamaaaDoorRefEncode
import Derived.Test.YtnokhjpileamaaaDoorPackD
import Derived.Test.YtnokhjpileamaaaDoorRefSame
import Derived.Test.YtnokhjpileamaaaDoorRow
import Derived.ProofKit
import Derived.OpenShut
import Derived.Carry
import Derived.Handed
import Derived.ChangeMaps5
/- A region that draws its order, walked step by step: readers, and at each fork all operations that may come up. Plain facts over any program. -/
namespace Go.Proofs.YtnokhjpileamaaaDoor
open Go.RowKit Go
section
variable {P : Program} {md : Region.Mode} {F : World → World → Prop}
theorem wpOp_of {l : List Oper} {Q : Exit → Act → World → Prop} {N R : Act → World → Prop} {e : Nat} (h3 : e < l.length) {a : Act} {w : World} (hK : ∀ a'' w', (F w w' ∧ N a'' w') → R a'' w')
    (ha : wpList P l.toArray (pieceEnd fun a'' w' => F w w' ∧ N a'' w') [pick l e] a w) : wpOp P l.toArray (NoPanic Q) e R a w := by
  unfold wpOp
  simp only [pick_at h3]
  unfold wpList at ha
  split at ha
  · rename_i hw
    rw [if_pos hw]
    rcases ha with ha | ⟨_, ⟨_, _, hx⟩⟩
    · refine .inl (wp_post (Q := pieceEnd _) (fun _ _ _ h => h.elim) (fun ⟨_, _, h⟩ => h.elim) (Oper.wp_mono (fun a'' w' h => hK a'' w' h) ha))
    · exact hx.elim
  · rename_i hw
    rw [if_neg hw]
    exact hK _ _ ha
/-- Readers come up and are taken. -/
theorem flow_reads {l : List Oper} {Q : Exit → Act → World → Prop} (hr : ∀ w, F w w) (hs : Region.noSelect l.toArray = true) {fuel : Nat} (is : List Nat) {listed : Array Bool} {a : Act} {w : World} (hB : readsB md l is listed = true)
    (h : wpQuiet P l.toArray (Futs F w) (fun a' => wpAnyH P md l.toArray (NoPanic Q) (Futs F w) fuel (setAll is listed) a' w) (is.map (pick l)) a) :
    wpAnyH P md l.toArray (NoPanic Q) (Futs F w) (is.length + fuel) listed a w :=
  wpAnyH_reads hs (Futs.of (hr w)) is listed a hB h (fun _ h => h)
/-- One operation, whichever comes up. -/
theorem flow_step {l : List Oper} {Q : Exit → Act → World → Prop} (ht : ∀ a b c, F a b → F b c → F a c) (hr : ∀ w, F w w) {fuel : Nat} (es : List Nat) {listed : Array Bool} {a : Act} {w : World} (h2 : (Region.ready md l.toArray listed == es) = true) (h0 : es ≠ []) (h3 : es.all (fun e => decide (e < l.length)) = true)
    (h : ∀ e ∈ es, wpList P l.toArray (pieceEnd fun a'' w' => F w w' ∧ wpAnyH P md l.toArray (NoPanic Q) (Futs F w') fuel (listed.setIfInBounds e true) a'' w') [pick l e] a w) :
    wpAnyH P md l.toArray (NoPanic Q) (Futs F w) (fuel + 1) listed a w := by
  have h2' : Region.ready md l.toArray listed = es := by simpa using h2
  refine wpAnyH_all h2' h0 (fun i hi => ?_)
  have hi3 : i < l.length := by simpa using List.all_eq_true.1 h3 i hi
  exact wpOp_of (F := F) hi3 (fun a'' w' ⟨hF, hg⟩ => ⟨Futs.of hF, wpAnyH_mono (fun x hx => Futs.of (ht _ _ _ hF (hx.to hr))) _ _ _ _ hg⟩) (h i hi)
theorem flow_one {l : List Oper} {Q : Exit → Act → World → Prop} (ht : ∀ a b c, F a b → F b c → F a c) (hr : ∀ w, F w w) {fuel : Nat} (e : Nat) {listed : Array Bool} {a : Act} {w : World} (h2 : (Region.ready md l.toArray listed == [e]) = true) (h3 : e < l.length)
    (h : wpList P l.toArray (pieceEnd fun a'' w' => F w w' ∧ wpAnyH P md l.toArray (NoPanic Q) (Futs F w') fuel (listed.setIfInBounds e true) a'' w') [pick l e] a w) :
    wpAnyH P md l.toArray (NoPanic Q) (Futs F w) (fuel + 1) listed a w :=
  flow_step ht hr [e] h2 (by simp) (by simpa using h3) (fun i hi => by
    have : i = e := by simpa using hi
    rw [this]; exact h)
theorem flow_two {l : List Oper} {Q : Exit → Act → World → Prop} (ht : ∀ a b c, F a b → F b c → F a c) (hr : ∀ w, F w w) {fuel : Nat} (e1 e2 : Nat) {listed : Array Bool} {a : Act} {w : World} (h2 : (Region.ready md l.toArray listed == [e1, e2]) = true) (h3 : e1 < l.length) (h4 : e2 < l.length)
    (h : wpList P l.toArray (pieceEnd fun a'' w' => F w w' ∧ wpAnyH P md l.toArray (NoPanic Q) (Futs F w') fuel (listed.setIfInBounds e1 true) a'' w') [pick l e1] a w)
    (h' : wpList P l.toArray (pieceEnd fun a'' w' => F w w' ∧ wpAnyH P md l.toArray (NoPanic Q) (Futs F w') fuel (listed.setIfInBounds e2 true) a'' w') [pick l e2] a w) :
    wpAnyH P md l.toArray (NoPanic Q) (Futs F w) (fuel + 1) listed a w :=
  flow_step ht hr [e1, e2] h2 (by simp) (by simp [h3, h4]) (fun i hi => by
    have : i = e1 ∨ i = e2 := by simpa using hi
    rcases this with rfl | rfl
    · exact h
    · exact h')
theorem flow_done {l : List Oper} {Q : Exit → Act → World → Prop} {listed : Array Bool} {a : Act} {w : World} (h2 : (Region.ready md l.toArray listed).isEmpty = true) (h : Q .normal a w) :
    wpAnyH P md l.toArray (NoPanic Q) (Futs F w) 0 listed a w := ⟨by simpa using h2, h⟩
theorem wp_region_flow {l : List Oper} {id : Nat} {Q : Exit → Act → World → Prop} {a : Act} {w : World} (hm : P.follows .mixedOrders = true) (F : World → World → Prop)
    (h : wpAnyH P .any l.toArray (NoPanic Q) (Futs F w.drew) l.length (Array.replicate l.length false) a w.drew) : (Code.region id l.toArray true).wp P Q a w := by
  refine wp_region_noPanic (wp_region_held hm (S := Futs F w.drew) ?_)
  rw [List.size_toArray]
  exact h
end
end Go.Proofs.YtnokhjpileamaaaDoor
/- The walks of trustflowmade's dice: Bytes; and what Some answers. -/
namespace Go.Proofs.YtnokhjpileamaaaDoor
open Go.RowKit
def byteTab : List Int := [0, 1, 255, 7, 128, 126, 32]
def byteAt (t : List Int) (k : Nat) : Int := byteTab.getD (diceV t k 7).toNat 0
theorem byteAt_bd (t : List Int) (k : Nat) : 0 ≤ byteAt t k ∧ byteAt t k ≤ 255 := by
  have h := diceV_bd t k 7 (by omega)
  unfold byteAt
  generalize diceV t k 7 = v at h
  have h7 : v.toNat = 0 ∨ v.toNat = 1 ∨ v.toNat = 2 ∨ v.toNat = 3 ∨ v.toNat = 4 ∨ v.toNat = 5 ∨ v.toNat = 6 := by omega
  rcases h7 with e | e | e | e | e | e | e <;> rw [e] <;> decide
/-- Bytes, and how many numbers have been given out behind them. -/
def diceBs (t : List Int) : Nat → Nat → List UInt8 × Nat
  | 0, k => ([], k)
  | j + 1, k => ((diceBs t j k).1 ++ [UInt8.ofNat (byteAt t (diceBs t j k).2).toNat], diceK t (diceBs t j k).2)
theorem diceBs_len (t : List Int) (j k : Nat) : (diceBs t j k).1.length = j := by
  induction j with
  | zero => rfl
  | succ j ih => simp [diceBs, ih]
def diceBytes (t : List Int) (k : Nat) (most : Int) : List UInt8 × Nat := diceBs t (diceV t k (most + 1)).toNat (diceK t k)
/-- Some of the numbers below n. -/
def diceSs (t : List Int) : Nat → Nat → List Int × Nat
  | 0, k => ([], k)
  | j + 1, k => (if diceV t (diceSs t j k).2 3 = 0 then (diceSs t j k).1 ++ [(j : Int)] else (diceSs t j k).1, diceK t (diceSs t j k).2)
theorem diceSs_len (t : List Int) (j k : Nat) : (diceSs t j k).1.length ≤ j := by
  induction j with
  | zero => exact Nat.le_refl _
  | succ j ih =>
    simp only [diceSs]
    split
    · rw [List.length_append]; simp; omega
    · omega
theorem diceSs_in (t : List Int) (j k : Nat) : ∀ z ∈ (diceSs t j k).1, 0 ≤ z ∧ z < j := by
  induction j with
  | zero => intro z h; cases h
  | succ j ih =>
    intro z h
    simp only [diceSs] at h
    split at h
    · rcases List.mem_append.1 h with h | h
      · have := ih z h; omega
      · have : z = j := by simpa using h
        omega
    · have := ih z h; omega
set_option maxRecDepth 20000 in
set_option maxHeartbeats 1000000 in
theorem bytes_any (L D : Nat) (t : List Int) (k : Nat) (most : Int) (w : World) (h : DiceAt w L D t k) (h0 : 0 ≤ most) (hm : most ≤ 100000) :
    Calls Tryd.prog 35 #[.pointer (some ⟨D, 0, none⟩), .int .i64 most] w fun e w' => ∃ v, e = .returned v ∧ BOwn w' w.heap.size v (diceBytes t k most).1 ∧ DiceAt w' L D t (diceBytes t k most).2 ∧ But D w w' := by
  have H := Lib.hid h; have hD := h.lt; clear h
  have hv := diceV_bd t k (most + 1) (by omega)
  go_enter Tryd.func35, Tryd.ntmps35
  go_wp2_with fail
  refine (next_any L D t k (most + 1) w H.out (by omega) (by omega)).mono ?_
  rintro e w1 ⟨rfl, hd, hb⟩
  have HD := Lib.hid hd; have HB := Lib.hid hb; clear hd hb
  have HE : Hid (diceBytes t k most = diceBs t (diceV t k (most + 1)).toNat (diceK t k)) := Lib.hid rfl
  generalize diceV t k (most + 1) = N at hv HE ⊢
  generalize diceK t k = k1 at HD HE
  go_wp2_with fail
  go_loopw [5, 6] (fun v i wr => ∃ j : Nat, (j : Int) ≤ N ∧ i = .int .i64 (N - (j : Int)) ∧ Hid (BOwn wr w.heap.size v (diceBs t j k1).1 ∧ DiceAt wr L D t (diceBs t j k1).2 ∧ But D w wr)) (fun _ i _ => (intOf i).toNat)
  case atStart => exact ⟨0, by omega, by go_num, Lib.hid ⟨World.ownsRow_nil _ _ _ _, HD.out, HB.out⟩⟩
  case round =>
    obtain ⟨j, hj, rfl, HQ⟩ := hrel
    have hlen := Lib.hid (diceBs_len t j k1)
    by_cases hlt : (j : Int) < N
    · have hbd := byteAt_bd t (diceBs t j k1).2
      have hsz : w.heap.size ≤ wr.heap.size := HQ.out.2.2.size
      go_wp2_with fail
      refine (of_any L D t (diceBs t j k1).2 _ 7 7 byteTab _ (HQ.out.2.1.later ((Below.refl _ _).alloc (Nat.le_refl _) _)) (Row.of_block (cs := (intsV byteTab).toArray) (heap_alloc_new _ _) rfl) (fun ad e => by injection e with e; subst e; show wr.heap.size ≠ D; omega) (by omega) (by omega)).mono ?_
      rintro e w2 ⟨rfl, hd, hb⟩
      rw [show byteTab.getD (diceV t (diceBs t j k1).2 ((7 : Nat) : Int)).toNat 0 = byteAt t (diceBs t j k1).2 from rfl]
      have ho : BOwn w2 w.heap.size _ (diceBs t j k1).1 := own_but (World.ownsRow.alloc HQ.out.1 _) hb hD
      have hb2 := HQ.out.2.2.trans ((But.of ((Below.refl _ _).alloc (Nat.le_refl _) _)).trans hb)
      have HX : Hid (w8 (UInt8.ofNat (byteAt t (diceBs t j k1).2).toNat) = byteAt t (diceBs t j k1).2) := by
        unfold Hid w8; rw [UInt8.toNat_ofNat']; omega
      have HN : Hid (diceBs t (j + 1) k1 = ((diceBs t j k1).1 ++ [UInt8.ofNat (byteAt t (diceBs t j k1).2).toNat], diceK t (diceBs t j k1).2)) := Lib.hid rfl
      generalize byteAt t (diceBs t j k1).2 = x at hbd HX HN ⊢
      have HO := Lib.hid ho; have HD2 := Lib.hid hd; have HB2 := Lib.hid hb2; clear ho hd hb hb2
      go_wp2_with (at_builtin; go_must (refine wpList_app_new w2 rfl (.tmp 15) (.tmp 20) 28 5 rfl w.heap.size Tryd.underlying28 u8_info rfl _ _ _ HO.out rfl 1 #[.int .u8 x] rfl (by simp [Value.oneCell']) rfl rfl (by rw [hlen.out]; unfold maxLen; omega) (by rw [hlen.out]; omega) HB2.out.size ?_); intro v3 w3 ho3 hb3; have HO3 := Lib.hid ho3; have HB3 := Lib.hid hb3; clear ho3 hb3)
      refine ⟨⟨j + 1, by omega, by go_num, Lib.hid ⟨?_, ?_, ?_⟩⟩, by simp [intOf]; omega⟩
      · rw [HN.out]
        unfold BOwn
        rw [bytesV_app, List.length_append]
        have h := HO3.out
        rw [← HX.out] at h
        exact h
      · rw [HN.out]; exact HD2.out.below HB3.out hD
      · exact HB2.out.grow HB3.out
    · have hj2 : (j : Int) = N := by omega
      have hn : N.toNat = j := by omega
      have HJ := Lib.hid hn; clear hj2 hn
      go_wp2
      go_ret
      rw [HE.out, HJ.out]
      exact ⟨_, rfl, HQ.out.1, HQ.out.2.1, HQ.out.2.2⟩
end Go.Proofs.YtnokhjpileamaaaDoor
/- The walks of the dice's One and Digest. -/
namespace Go.Proofs.YtnokhjpileamaaaDoor
open Go.RowKit
/-- The dice are still there, more of their numbers given out perhaps, and nothing else has turned. -/
def Gave (L D : Nat) (t : List Int) (w w' : World) : Prop := (∃ k, DiceAt w' L D t k) ∧ But D w w'
theorem next_g (L D : Nat) (t : List Int) (m : Int) (w : World) (h : ∃ k, DiceAt w L D t k) (hm : 1 ≤ m) (hm2 : m ≤ 1000000) :
    Calls Tryd.prog 14 #[.pointer (some ⟨D, 0, none⟩), .int .i64 m] w fun e w' => ∃ v, e = .returned (.int .i64 v) ∧ 0 ≤ v ∧ v < m ∧ Gave L D t w w' := by
  obtain ⟨k, h⟩ := h
  refine (next_any L D t k m w h hm hm2).mono ?_
  rintro e w' ⟨rfl, hd, hb⟩
  exact ⟨_, rfl, (diceV_bd t k m hm).1, (diceV_bd t k m hm).2, ⟨_, hd⟩, hb⟩
theorem of_g (L D : Nat) (t : List Int) (A : Option Addr) (n c : Nat) (l : List Int) (w : World) (h : ∃ k, DiceAt w L D t k) (hl : Row w A n c 1 (intsV l)) (hs : ∀ ad, A = some ad → ad.block ≠ D) (h0 : 1 ≤ n) (hn : n ≤ 1000) :
    Calls Tryd.prog 16 #[.pointer (some ⟨D, 0, none⟩), .slice A n c] w fun e w' => ∃ v, e = .returned (.int .i64 v) ∧ v ∈ l ∧ Gave L D t w w' := by
  obtain ⟨k, h⟩ := h
  have hlen := hl.len
  rw [intsV_len, Nat.mul_one] at hlen
  have hv := diceV_bd t k n (by omega)
  refine (of_any L D t k A n c l w h hl hs h0 hn).mono ?_
  rintro e w' ⟨rfl, hd, hb⟩
  refine ⟨_, rfl, ?_, ⟨_, hd⟩, hb⟩
  rw [List.getD_eq_getElem?_getD, List.getElem?_eq_getElem (by omega)]
  exact List.getElem_mem _
theorem one_g (L D : Nat) (t : List Int) (m : Int) (w : World) (h : ∃ k, DiceAt w L D t k) (hm : 1 ≤ m) (hm2 : m ≤ 1000) :
    Calls Tryd.prog 34 #[.pointer (some ⟨D, 0, none⟩), .int .i64 m] w fun e w' => ∃ b : Bool, e = .returned (.bool b) ∧ Gave L D t w w' := by
  go_enter Tryd.func34, Tryd.ntmps34
  go_wp2_with fail
  refine (next_g L D t m w h hm (by omega)).mono ?_
  rintro e w1 ⟨v, rfl, _, _, hg⟩
  have HG := Lib.hid hg; clear hg
  go_wp2
  go_ret
  exact ⟨_, rfl, HG.out⟩
set_option maxRecDepth 20000 in
set_option maxHeartbeats 1000000 in
theorem ddigest_g (L D : Nat) (t : List Int) (w : World) (h : ∃ k, DiceAt w L D t k) :
    Calls Tryd.prog 17 #[.pointer (some ⟨D, 0, none⟩)] w fun e w' => ∃ s : ByteArray, e = .returned (.string s) ∧ s.size = 32 ∧ Gave L D t w w' := by
  have hmk : ∀ w, (Instr.makeSlice 28 (.int .i64 32) (.int .i64 32)).run Tryd.prog w = .ok (.slice (some ⟨w.heap.size, 0, none⟩) 32 32) (w.alloc (.cells (List.replicate 32 (Value.int .u8 0)).toArray 5)) := fun _ => by kernel_rfl
  have HH : Hid (∃ k, DiceAt (w.alloc (.cells (List.replicate 32 (Value.int .u8 0)).toArray 5)) L D t k) := by obtain ⟨k, h⟩ := h; exact ⟨k, h.later (one_new w _)⟩
  have hD : D < w.heap.size := by obtain ⟨k, h⟩ := h; exact h.lt
  have HN := Lib.hid (But.of (D := D) (one_new w (.cells (List.replicate 32 (Value.int .u8 0)).toArray 5)))
  have HX := Lib.hid (heap_alloc_new w (.cells (List.replicate 32 (Value.int .u8 0)).toArray 5))
  have HZ : Hid (w.heap.size < (w.alloc (.cells (List.replicate 32 (Value.int .u8 0)).toArray 5)).heap.size) := Lib.hid (by simp)
  clear h
  go_enter Tryd.func17, Tryd.ntmps17
  go_wp2_with fail
  clear hmk
  refine (next_g L D t 4 _ HH.out (by omega) (by omega)).mono ?_
  generalize w.alloc (.cells (List.replicate 32 (Value.int .u8 0)).toArray 5) = y at HH HN HX HZ ⊢
  clear HH
  rintro e w1 ⟨x, rfl, hx0, hx4, hd, hb⟩
  have HD := Lib.hid hd; replace HX := Lib.hid ((hb.block w.heap.size HZ.out (by omega)).trans HX.out); replace HZ := Lib.hid (Nat.lt_of_lt_of_le HZ.out hb.size); replace HN := Lib.hid (HN.out.trans hb); clear hd hb
  go_wp2_with fail
  refine (next_g L D t 256 _ HD.out (by omega) (by omega)).mono ?_
  rintro e w2 ⟨z, rfl, hz0, hz4, hd, hb⟩
  replace HD := Lib.hid hd; replace HX := Lib.hid ((hb.block w.heap.size HZ.out (by omega)).trans HX.out); replace HZ := Lib.hid (Nat.lt_of_lt_of_le HZ.out hb.size); replace HN := Lib.hid (HN.out.trans hb); clear hd hb
  have hf0 : w2.frozen? ⟨w.heap.size, 0, none⟩ = false := frozen_of_row _ _ _ _ _ HX.out
  have hf1 : w2.frozen? ⟨w.heap.size, 31, none⟩ = false := frozen_of_row _ _ _ _ _ HX.out
  have hc0 : w2.cell? ⟨w.heap.size, 0, none⟩ = some (.int .u8 0) := by rw [cell_of_row _ _ _ _ _ _ HX.out]; rfl
  have hc1 : w2.cell? ⟨w.heap.size, 31, none⟩ = some (.int .u8 0) := by rw [cell_of_row _ _ _ _ _ _ HX.out]; rfl
  have e0 : IntKind.u8.wrap x = x := by have : IntKind.u8.wrap x = x % 256 := rfl; omega
  have e1 : IntKind.u8.wrap z = z := by have : IntKind.u8.wrap z = z % 256 := rfl; omega
  have hx : bv (UInt8.ofNat x.toNat) = .int .u8 x := by unfold bv w8; rw [UInt8.toNat_ofNat']; congr 1; omega
  have hz : bv (UInt8.ofNat z.toNat) = .int .u8 z := by unfold bv w8; rw [UInt8.toNat_ofNat']; congr 1; omega
  have h3 := heap_setCell_same (w2.setCell ⟨w.heap.size, 0, none⟩ (.int .u8 x)) w.heap.size 31 _ _ (Value.int .u8 z) (heap_setCell_same w2 w.heap.size 0 _ _ (Value.int .u8 x) HX.out)
  have hrow : BRow ((w2.setCell ⟨w.heap.size, 0, none⟩ (.int .u8 x)).setCell ⟨w.heap.size, 31, none⟩ (.int .u8 z)) (some ⟨w.heap.size, 0, none⟩) 32 32 (UInt8.ofNat x.toNat :: (List.replicate 30 0 ++ [UInt8.ofNat z.toNat])) := by
    have h4 := Row.of_block (n := 32) (sz := 1) h3 rfl
    have h5 : bytesV (UInt8.ofNat x.toNat :: (List.replicate 30 0 ++ [UInt8.ofNat z.toNat])) = bv (UInt8.ofNat x.toNat) :: (List.replicate 30 (Value.int .u8 0) ++ [bv (UInt8.ofNat z.toNat)]) := rfl
    unfold BRow
    rw [h5, hx, hz]
    exact h4
  have hcv := conv_at hrow (Below.refl _ _) rfl
  have hb3 : Below w.heap.size w2 ((w2.setCell ⟨w.heap.size, 0, none⟩ (.int .u8 x)).setCell ⟨w.heap.size, 31, none⟩ (.int .u8 z)) := Below.setCell (p := ⟨w.heap.size, 31, none⟩) (Below.setCell (p := ⟨w.heap.size, 0, none⟩) (Below.refl _ _) (Nat.le_refl _) _) (Nat.le_refl _) _
  have hd3 : ∃ k, DiceAt ((w2.setCell ⟨w.heap.size, 0, none⟩ (.int .u8 x)).setCell ⟨w.heap.size, 31, none⟩ (.int .u8 z)) L D t k := by obtain ⟨k, h⟩ := HD.out; exact ⟨k, h.below hb3 hD⟩
  have HD3 := Lib.hid hd3; have HB3 := Lib.hid (HN.out.grow hb3)
  clear hd3 hb3 hrow h3 hx hz
  go_wp2_with fail
  go_ret
  exact ⟨_, rfl, by rw [strOf_size]; rfl, HD3.out, HB3.out⟩
end Go.Proofs.YtnokhjpileamaaaDoor
/- The walk of the dice's Statement. -/
namespace Go.Proofs.YtnokhjpileamaaaDoor
open Go.RowKit
def StmOut (L D : Nat) (t : List Int) (w : World) (e : Ending) (w' : World) : Prop :=
  ∃ (s : Stm) (A : Option Addr) (n c : Nat) (B : Option Addr) (m k : Nat), e = .returned (stmV s A n c B m k) ∧ IRow w' A n c s.list ∧ PRow w' B m k s.pins ∧ New w w' A ∧ New w w' B ∧
    s.list.length ≤ 2 ∧ s.pins.length ≤ 1 ∧ (pinsBs s.pins).length ≤ 56 ∧ s.body.size ≤ 5 ∧ s.prev.size = 0 ∧ s.dig.size = 0 ∧ Gave L D t w w'
def kinds8 : List Int := [1, 1, 1, 2, 10, 31, 1, 12]
/-- In the midst of the call: what its two blocks hold. -/
structure Mid (L D : Nat) (t : List Int) (w : World) (S : Nat) (cs : Array Value) (x : World) : Prop where
  but : But D w x
  dice : ∃ k, DiceAt x L D t k
  res : x.heap[w.heap.size]? = some (.cells #[.int .i64 0, .int .i64 0, .string ⟨#[]⟩, .int .i64 0, .int .i64 0, .int .i64 0, .int .i64 0, .int .i64 0, .slice none 0 0, .slice none 0 0, .string ⟨#[]⟩, .int .i64 0, .string ⟨#[]⟩] 27 (0, 0))
  cur : x.heap[S]? = some (.cells cs 27 (0, 0))
  lt : S < x.heap.size
  low : w.heap.size < S
  dlt : D < w.heap.size
theorem Mid.gave {L D : Nat} {t : List Int} {w x y : World} {S : Nat} {cs : Array Value} (h : Mid L D t w S cs x) (g : Gave L D t x y) : Mid L D t w S cs y :=
  have h1 := h.low; have h2 := h.lt; have h3 := h.dlt
  ⟨h.but.trans g.2, g.1, (g.2.block _ (by omega) (by omega)).trans h.res, (g.2.block _ h2 (by omega)).trans h.cur, Nat.lt_of_lt_of_le h2 g.2.size, h1, h3⟩
theorem Mid.later {L D : Nat} {t : List Int} {w x y : World} {S : Nat} {cs : Array Value} (h : Mid L D t w S cs x) (hb : Below x.heap.size x y) : Mid L D t w S cs y := by
  obtain ⟨k, hk⟩ := h.dice
  exact h.gave ⟨⟨k, hk.later hb⟩, But.of hb⟩
theorem Mid.set {L D : Nat} {t : List Int} {w x : World} {S : Nat} {cs : Array Value} (h : Mid L D t w S cs x) (i : Nat) (v : Value) : Mid L D t w S (cs.setIfInBounds i v) (x.setCell ⟨S, i, none⟩ v) := by
  have h1 := h.low; have h2 := h.lt; have h3 := h.dlt
  have hb : Below S x (x.setCell ⟨S, i, none⟩ v) := Below.setCell (p := ⟨S, i, none⟩) (Below.refl _ _) (Nat.le_refl _) _
  obtain ⟨k, hk⟩ := h.dice
  exact ⟨h.but.grow (hb.mono (by omega)), ⟨k, hk.below hb (by omega)⟩, (hb.block _ h1).trans h.res, heap_setCell_same _ _ _ _ _ _ h.cur, Nat.lt_of_lt_of_le h2 hb.size, h1, h3⟩
theorem Mid.gone {L D : Nat} {t : List Int} {w x : World} {S : Nat} {cs : Array Value} (h : Mid L D t w S cs x) (cs' : Array Value) : Gave L D t w (x.setRow w.heap.size cs') := by
  have hb : Below w.heap.size x (x.setRow w.heap.size cs') := below_setRow (Below.refl _ _) (Nat.le_refl _) _
  obtain ⟨k, hk⟩ := h.dice
  exact ⟨⟨k, hk.below hb h.dlt⟩, h.but.grow hb⟩
/-- The walk stops before an operation, in any world of which something is known. -/
theorem stop_at {P : Program} {ops : Array Oper} {rest : List Oper} {o : Oper} {a : Act} {w : World} {Q : Exit → Act → World → Prop} (op : Op) (_ho : o.op = op) (C : World → Prop) (hC : C w) (h : Hid (∀ w', C w' → wpList P ops Q (o :: rest) a w')) : wpList P ops Q (o :: rest) a w := h.out w hC
theorem New.none0 (w w' : World) : New w w' none := fun ad h => by cases h
theorem Mid.belowS {L D : Nat} {t : List Int} {w x y : World} {S : Nat} {cs : Array Value} (h : Mid L D t w S cs x) (hb : Below (S + 1) x y) : Mid L D t w S cs y := by
  have h1 := h.low; have h2 := h.lt; have h3 := h.dlt
  obtain ⟨k, hk⟩ := h.dice
  exact ⟨h.but.grow (hb.mono (by omega)), ⟨k, hk.below hb (by omega)⟩, (hb.block _ (by omega)).trans h.res, (hb.block _ (by omega)).trans h.cur, Nat.lt_of_lt_of_le h2 hb.size, h1, h3⟩
/-- A slice's block lies above another one. -/
def Up (S : Nat) (x : World) (A : Option Addr) : Prop := ∀ ad, A = some ad → S < ad.block ∧ ad.block < x.heap.size
theorem Up.none0 (S : Nat) (x : World) : Up S x none := fun ad h => by cases h
theorem Up.mono {S : Nat} {x y : World} {A : Option Addr} (h : Up S x A) (hs : x.heap.size ≤ y.heap.size) : Up S y A := fun ad e => ⟨(h ad e).1, Nat.lt_of_lt_of_le (h ad e).2 hs⟩
/-- In the midst of the call, with the rows of the statement. -/
structure MidR (L D : Nat) (t : List Int) (w : World) (S : Nat) (cs : Array Value) (A : Option Addr) (n c : Nat) (l : List Int) (B : Option Addr) (m k : Nat) (ps : List PinD) (x : World) : Prop where
  mid : Mid L D t w S cs x
  il : IRow x A n c l
  pl : PRow x B m k ps
  ua : Up S x A
  ub : Up S x B
section
variable {L D : Nat} {t : List Int} {w x y : World} {S : Nat} {cs : Array Value} {A : Option Addr} {n c : Nat} {l : List Int} {B : Option Addr} {m k : Nat} {ps : List PinD}
theorem MidR.gave (h : MidR L D t w S cs A n c l B m k ps x) (g : Gave L D t x y) : MidR L D t w S cs A n c l B m k ps y :=
  have hd : D ≤ S := Nat.le_of_lt (Nat.lt_trans h.mid.dlt h.mid.low)
  ⟨h.mid.gave g, but_up g.2 h.il (fun ad e => (h.ua ad e).1) hd, but_up g.2 h.pl (fun ad e => (h.ub ad e).1) hd, h.ua.mono g.2.size, h.ub.mono g.2.size⟩
theorem MidR.later (h : MidR L D t w S cs A n c l B m k ps x) (hb : Below x.heap.size x y) : MidR L D t w S cs A n c l B m k ps y :=
  ⟨h.mid.later hb, h.il.later hb, h.pl.later hb, h.ua.mono hb.size, h.ub.mono hb.size⟩
theorem MidR.set (h : MidR L D t w S cs A n c l B m k ps x) (i : Nat) (v : Value) : MidR L D t w S (cs.setIfInBounds i v) A n c l B m k ps (x.setCell ⟨S, i, none⟩ v) := by
  have hb : Below S x (x.setCell ⟨S, i, none⟩ v) := Below.setCell (p := ⟨S, i, none⟩) (Below.refl _ _) (Nat.le_refl _) _
  exact ⟨h.mid.set i v, set_up h.il (fun ad e => (h.ua ad e).1) i v, set_up h.pl (fun ad e => (h.ub ad e).1) i v, h.ua.mono hb.size, h.ub.mono hb.size⟩
theorem MidR.pins (h : MidR L D t w S cs A n c l B m k ps x) {B2 : Option Addr} {m2 k2 : Nat} {ps2 : List PinD} (hp : PRow x B2 m2 k2 ps2) (hu : Up S x B2) : MidR L D t w S cs A n c l B2 m2 k2 ps2 x :=
  ⟨h.mid, h.il, hp, h.ua, hu⟩
theorem MidR.gone (h : MidR L D t w S cs A n c l B m k ps x) (cs' : Array Value) : IRow (x.setRow w.heap.size cs') A n c l ∧ PRow (x.setRow w.heap.size cs') B m k ps ∧ New w (x.setRow w.heap.size cs') A ∧ New w (x.setRow w.heap.size cs') B ∧ Gave L D t w (x.setRow w.heap.size cs') := by
  have h1 := h.mid.low
  have hs : (x.setRow w.heap.size cs').heap.size = x.heap.size := by simp [World.setRow]
  refine ⟨Row.keep h.il fun ad e _ _ => setRow_other _ _ _ _ (by have := (h.ua ad e).1; omega), Row.keep h.pl fun ad e _ _ => setRow_other _ _ _ _ (by have := (h.ub ad e).1; omega), fun ad e => ?_, fun ad e => ?_, h.mid.gone cs'⟩
  · have := h.ua ad e; exact ⟨by omega, by rw [hs]; exact this.2⟩
  · have := h.ub ad e; exact ⟨by omega, by rw [hs]; exact this.2⟩
theorem up_own {e : TypeId} {sz : Nat} {xs : List Value} (h : x.ownsRow (S + 1) e sz (.slice A n c) n xs) : Up S x A := by
  intro ad e1
  subst e1
  have := World.ownsRow.lt h ad.block rfl
  exact ⟨by omega, this.2⟩
end
theorem bytes_g (L D : Nat) (t : List Int) (m : Int) (w : World) (h : ∃ k, DiceAt w L D t k) (h0 : 0 ≤ m) (hm : m ≤ 1000) :
    Calls Tryd.prog 35 #[.pointer (some ⟨D, 0, none⟩), .int .i64 m] w fun e w' => ∃ A n c us, e = .returned (.slice A n c) ∧ BRow w' A n c us ∧ (us.length : Int) ≤ m ∧ Gave L D t w w' := by
  obtain ⟨k, h⟩ := h
  refine (bytes_any L D t k m w h h0 (by omega)).mono ?_
  rintro e w' ⟨v, rfl, ho, hd, hb⟩
  obtain ⟨A, c, rfl, hr⟩ := Row.of_own ho
  refine ⟨A, _, c, _, rfl, hr, ?_, ⟨_, hd⟩, hb⟩
  have := diceV_bd t k (m + 1) (by omega)
  unfold diceBytes
  rw [diceBs_len]
  omega
set_option maxRecDepth 100000 in
set_option maxHeartbeats 2000000 in
theorem dstm_g (L D : Nat) (t : List Int) (author time : Int) (w : World) (h : ∃ k, DiceAt w L D t k) (ha : 0 ≤ author ∧ author ≤ 1000) (ht : 0 ≤ time ∧ time ≤ 1000) :
    Calls Tryd.prog 13 #[.pointer (some ⟨D, 0, none⟩), .int .i64 author, .int .i64 time] w (StmOut L D t w) := by
  have hD : D < w.heap.size := by obtain ⟨k, h⟩ := h; exact h.lt
  have HB := Lib.hid ((one_new w (.cells #[.int .i64 0, .int .i64 0, .string ⟨#[]⟩, .int .i64 0, .int .i64 0, .int .i64 0, .int .i64 0, .int .i64 0, .slice none 0 0, .slice none 0 0, .string ⟨#[]⟩, .int .i64 0, .string ⟨#[]⟩] 27)).trans ((one_new (w.alloc (.cells #[.int .i64 0, .int .i64 0, .string ⟨#[]⟩, .int .i64 0, .int .i64 0, .int .i64 0, .int .i64 0, .int .i64 0, .slice none 0 0, .slice none 0 0, .string ⟨#[]⟩, .int .i64 0, .string ⟨#[]⟩] 27)) (.cells (intsV kinds8).toArray 3)).mono (by simp)))
  have HQ := Lib.hid (((one_new (w.alloc (.cells #[.int .i64 0, .int .i64 0, .string ⟨#[]⟩, .int .i64 0, .int .i64 0, .int .i64 0, .int .i64 0, .int .i64 0, .slice none 0 0, .slice none 0 0, .string ⟨#[]⟩, .int .i64 0, .string ⟨#[]⟩] 27)) (.cells (intsV kinds8).toArray 3)).block w.heap.size (by simp)).trans (heap_alloc_new w (.cells #[.int .i64 0, .int .i64 0, .string ⟨#[]⟩, .int .i64 0, .int .i64 0, .int .i64 0, .int .i64 0, .int .i64 0, .slice none 0 0, .slice none 0 0, .string ⟨#[]⟩, .int .i64 0, .string ⟨#[]⟩] 27)))
  have HK := Lib.hid (heap_alloc_new (w.alloc (.cells #[.int .i64 0, .int .i64 0, .string ⟨#[]⟩, .int .i64 0, .int .i64 0, .int .i64 0, .int .i64 0, .int .i64 0, .slice none 0 0, .slice none 0 0, .string ⟨#[]⟩, .int .i64 0, .string ⟨#[]⟩] 27)) (.cells (intsV kinds8).toArray 3))
  have HS : Hid (w.heap.size + 1 < ((w.alloc (.cells #[.int .i64 0, .int .i64 0, .string ⟨#[]⟩, .int .i64 0, .int .i64 0, .int .i64 0, .int .i64 0, .int .i64 0, .slice none 0 0, .slice none 0 0, .string ⟨#[]⟩, .int .i64 0, .string ⟨#[]⟩] 27)).alloc (.cells (intsV kinds8).toArray 3)).heap.size) := Lib.hid (by simp)
  have HH : Hid (∃ k, DiceAt ((w.alloc (.cells #[.int .i64 0, .int .i64 0, .string ⟨#[]⟩, .int .i64 0, .int .i64 0, .int .i64 0, .int .i64 0, .int .i64 0, .slice none 0 0, .slice none 0 0, .string ⟨#[]⟩, .int .i64 0, .string ⟨#[]⟩] 27)).alloc (.cells (intsV kinds8).toArray 3)) L D t k) := by obtain ⟨k, h⟩ := h; exact ⟨k, h.later HB.out⟩
  clear h
  go_enter Tryd.func13, Tryd.ntmps13
  go_wp2_with fail
  have HK2 : Hid (Row ((w.alloc (.cells #[.int .i64 0, .int .i64 0, .string ⟨#[]⟩, .int .i64 0, .int .i64 0, .int .i64 0, .int .i64 0, .int .i64 0, .slice none 0 0, .slice none 0 0, .string ⟨#[]⟩, .int .i64 0, .string ⟨#[]⟩] 27)).alloc (.cells (intsV kinds8).toArray 3)) (some ⟨w.heap.size + 1, 0, none⟩) 8 8 1 (intsV kinds8)) := Lib.hid (Row.of_block (cs := (intsV kinds8).toArray) (by have := HK.out; rw [show (w.alloc (.cells #[.int .i64 0, .int .i64 0, .string ⟨#[]⟩, .int .i64 0, .int .i64 0, .int .i64 0, .int .i64 0, .int .i64 0, .slice none 0 0, .slice none 0 0, .string ⟨#[]⟩, .int .i64 0, .string ⟨#[]⟩] 27)).heap.size = w.heap.size + 1 by simp] at this; exact this) rfl)
  clear HK
  refine (of_g L D t (some ⟨w.heap.size + 1, 0, none⟩) 8 8 kinds8 ((w.alloc (.cells #[.int .i64 0, .int .i64 0, .string ⟨#[]⟩, .int .i64 0, .int .i64 0, .int .i64 0, .int .i64 0, .int .i64 0, .slice none 0 0, .slice none 0 0, .string ⟨#[]⟩, .int .i64 0, .string ⟨#[]⟩] 27)).alloc (.cells (intsV kinds8).toArray 3)) HH.out HK2.out (fun ad e => by injection e with e; subst e; show w.heap.size + 1 ≠ D; omega) (by omega) (by omega)).mono ?_
  clear HK2 HH
  generalize (w.alloc (.cells #[.int .i64 0, .int .i64 0, .string ⟨#[]⟩, .int .i64 0, .int .i64 0, .int .i64 0, .int .i64 0, .int .i64 0, .slice none 0 0, .slice none 0 0, .string ⟨#[]⟩, .int .i64 0, .string ⟨#[]⟩] 27)).alloc (.cells (intsV kinds8).toArray 3) = y at HB HQ HS ⊢
  rintro e w1 ⟨kd, rfl, hkd, hg⟩
  have hsz := HS.out
  have HM : Hid (Mid L D t w w1.heap.size #[.int .i64 author, .int .i64 0, .string ⟨#[]⟩, .int .i64 time, .int .i64 kd, .int .i64 0, .int .i64 0, .int .i64 0, .slice none 0 0, .slice none 0 0, .string ⟨#[]⟩, .int .i64 0, .string ⟨#[]⟩] (w1.alloc (.cells #[.int .i64 author, .int .i64 0, .string ⟨#[]⟩, .int .i64 time, .int .i64 kd, .int .i64 0, .int .i64 0, .int .i64 0, .slice none 0 0, .slice none 0 0, .string ⟨#[]⟩, .int .i64 0, .string ⟨#[]⟩] 27))) := by
    have h1 := hg.2.size
    have hn := one_new w1 (.cells #[.int .i64 author, .int .i64 0, .string ⟨#[]⟩, .int .i64 time, .int .i64 kd, .int .i64 0, .int .i64 0, .int .i64 0, .slice none 0 0, .slice none 0 0, .string ⟨#[]⟩, .int .i64 0, .string ⟨#[]⟩] 27)
    obtain ⟨k, hk⟩ := hg.1
    exact Lib.hid ⟨((But.of HB.out).trans hg.2).trans (But.of hn), ⟨k, hk.later hn⟩, (hn.block _ (by omega)).trans ((hg.2.block _ (by omega) (by omega)).trans HQ.out), heap_alloc_new _ _, by simp, by omega, hD⟩
  clear hg HB HQ HS hsz
  have hk3 : kd = 1 ∨ kd = 2 ∨ (kd ≠ 1 ∧ kd ≠ 2) := by omega
  have hc4 : (w1.alloc (.cells #[.int .i64 author, .int .i64 0, .string ⟨#[]⟩, .int .i64 time, .int .i64 kd, .int .i64 0, .int .i64 0, .int .i64 0, .slice none 0 0, .slice none 0 0, .string ⟨#[]⟩, .int .i64 0, .string ⟨#[]⟩] 27)).cell? ⟨w1.heap.size, 4, none⟩ = some (.int .i64 kd) := by rw [cell_of_row _ _ _ _ _ _ HM.out.cur]; rfl
  rcases hk3 with hk | hk | hk
  · subst hk
    go_wp2_with fail
    clear hc4
    refine (next_g L D t 5 _ HM.out.dice (by omega) (by omega)).mono ?_
    rintro e w2 ⟨p, rfl, hp0, hpm, hg⟩
    replace HM := Lib.hid (HM.out.gave hg); clear hg
    go_wp2_with fail
    refine (mod_any (author + 1 + p) 6 _ (by omega) (by omega)).mono ?_
    rintro e w3 ⟨rfl, rfl⟩
    have hmd := modF_bd (author + 1 + p) 6 (by omega)
    generalize modF (author + 1 + p) 6 = aa at hmd ⊢
    go_wp2_with fail
    refine (next_g L D t 3 _ HM.out.dice (by omega) (by omega)).mono ?_
    rintro e w3 ⟨q, rfl, hq0, hqm, hg⟩
    replace HM := Lib.hid (HM.out.gave hg); clear hg
    go_wp2_with fail
    have hlow : w.heap.size < w3.heap.size := Nat.lt_trans HM.out.low HM.out.lt
    have HR : Hid (Row (w3.alloc (.cells (intsV [50, 5, 0, 200]).toArray 3)) (some ⟨w3.heap.size, 0, none⟩) 4 4 1 (intsV [50, 5, 0, 200])) := Lib.hid (Row.of_block (cs := (intsV [50, 5, 0, 200]).toArray) (heap_alloc_new _ _) rfl)
    replace HM := Lib.hid (HM.out.later (one_new w3 (.cells (intsV [50, 5, 0, 200]).toArray 3)))
    refine (of_g L D t (some ⟨w3.heap.size, 0, none⟩) 4 4 [50, 5, 0, 200] (w3.alloc (.cells (intsV [50, 5, 0, 200]).toArray 3)) HM.out.dice HR.out (fun ad e => by injection e with e; subst e; show w3.heap.size ≠ D; omega) (by omega) (by omega)).mono ?_
    clear HR
    generalize (w3.alloc (.cells (intsV [50, 5, 0, 200]).toArray 3)) = z at HM ⊢
    rintro e w4 ⟨r, rfl, hin, hg⟩
    replace HM := Lib.hid (HM.out.gave hg); clear hg
    have hr : 0 ≤ r ∧ r ≤ 200 := by simp at hin; omega
    clear hin hlow
    have hf5 : w4.frozen? ⟨w1.heap.size, 5, none⟩ = false := frozen_of_row _ _ _ _ _ HM.out.cur
    have hc5 : w4.cell? ⟨w1.heap.size, 5, none⟩ = some (.int .i64 0) := by rw [cell_of_row _ _ _ _ _ _ HM.out.cur]; rfl
    have hf6 : w4.frozen? ⟨w1.heap.size, 6, none⟩ = false := frozen_of_row _ _ _ _ _ HM.out.cur
    have hc6 : w4.cell? ⟨w1.heap.size, 6, none⟩ = some (.int .i64 0) := by rw [cell_of_row _ _ _ _ _ _ HM.out.cur]; rfl
    have hf7 : w4.frozen? ⟨w1.heap.size, 7, none⟩ = false := frozen_of_row _ _ _ _ _ HM.out.cur
    have hc7 : w4.cell? ⟨w1.heap.size, 7, none⟩ = some (.int .i64 0) := by rw [cell_of_row _ _ _ _ _ _ HM.out.cur]; rfl
    have HF : Hid (Mid L D t w w1.heap.size #[.int .i64 author, .int .i64 0, .string ⟨#[]⟩, .int .i64 time, .int .i64 1, .int .i64 aa, .int .i64 (1 + q), .int .i64 (time + r), .slice none 0 0, .slice none 0 0, .string ⟨#[]⟩, .int .i64 0, .string ⟨#[]⟩] _) := Lib.hid (((HM.out.set 5 (.int .i64 aa)).set 6 (.int .i64 (1 + q))).set 7 (.int .i64 (time + r)))
    have HG : Hid (Mid L D t w w1.heap.size #[.int .i64 author, .int .i64 0, .string ⟨#[]⟩, .int .i64 time, .int .i64 1, .int .i64 (author + 1), .int .i64 (1 + q), .int .i64 (time + r), .slice none 0 0, .slice none 0 0, .string ⟨#[]⟩, .int .i64 0, .string ⟨#[]⟩] _) := Lib.hid (HF.out.set 5 (.int .i64 (author + 1)))
    go_wp2_with (first | refine stop_at (.load 27 (.tmp 7)) rfl (Mid L D t w w1.heap.size #[.int .i64 author, .int .i64 0, .string ⟨#[]⟩, .int .i64 time, .int .i64 1, .int .i64 aa, .int .i64 (1 + q), .int .i64 (time + r), .slice none 0 0, .slice none 0 0, .string ⟨#[]⟩, .int .i64 0, .string ⟨#[]⟩]) HF.out ?_ | refine stop_at (.load 27 (.tmp 7)) rfl (Mid L D t w w1.heap.size #[.int .i64 author, .int .i64 0, .string ⟨#[]⟩, .int .i64 time, .int .i64 1, .int .i64 (author + 1), .int .i64 (1 + q), .int .i64 (time + r), .slice none 0 0, .slice none 0 0, .string ⟨#[]⟩, .int .i64 0, .string ⟨#[]⟩]) HG.out ?_)
    · refine Lib.hid ?_
      intro w9 hM9
      have HM9 := Lib.hid hM9; clear hM9
      go_wp2_with (first
        | refine wpList_load_row rfl 27 (.tmp 7) rfl w1.heap.size rfl 27 #[.int .i64 author, .int .i64 0, .string ⟨#[]⟩, .int .i64 time, .int .i64 1, .int .i64 (author + 1), .int .i64 (1 + q), .int .i64 (time + r), .slice none 0 0, .slice none 0 0, .string ⟨#[]⟩, .int .i64 0, .string ⟨#[]⟩] (0, 0) _ HM9.out.cur Tryd.underlying27 rfl (by kernel_rfl) ?_
        | refine wpList_store_row rfl 27 (.tmp 6) (.tmp 88) rfl w.heap.size #[.int .i64 author, .int .i64 0, .string ⟨#[]⟩, .int .i64 time, .int .i64 1, .int .i64 (author + 1), .int .i64 (1 + q), .int .i64 (time + r), .slice none 0 0, .slice none 0 0, .string ⟨#[]⟩, .int .i64 0, .string ⟨#[]⟩] rfl rfl 27 _ HM9.out.res (by kernel_rfl) rfl (by simp [Value.oneCell']) ?_)
      refine bodyPost_ret (v := .agg #[.int .i64 author, .int .i64 0, .string ⟨#[]⟩, .int .i64 time, .int .i64 1, .int .i64 (author + 1), .int .i64 (1 + q), .int .i64 (time + r), .slice none 0 0, .slice none 0 0, .string ⟨#[]⟩, .int .i64 0, .string ⟨#[]⟩]) (results_cell_row rfl _ _ w.heap.size 27 #[.int .i64 author, .int .i64 0, .string ⟨#[]⟩, .int .i64 time, .int .i64 1, .int .i64 (author + 1), .int .i64 (1 + q), .int .i64 (time + r), .slice none 0 0, .slice none 0 0, .string ⟨#[]⟩, .int .i64 0, .string ⟨#[]⟩] (0, 0) _ rfl (setRow_heap _ _ _ _ _ _ HM9.out.res) Tryd.underlying27 rfl (by kernel_rfl)) rfl
        ⟨⟨author, 0, ⟨#[]⟩, time, 1, (author + 1), (1 + q), (time + r), [], [], ⟨#[]⟩, 0, ⟨#[]⟩⟩, none, 0, 0, none, 0, 0, rfl, Row.nilRow _ _, Row.nilRow _ _, New.none0 _ _, New.none0 _ _, Nat.zero_le _, Nat.zero_le _, Nat.zero_le _, Nat.zero_le _, rfl, rfl, HM9.out.gone _⟩
    · refine Lib.hid ?_
      intro w9 hM9
      have HM9 := Lib.hid hM9; clear hM9
      go_wp2_with (first
        | refine wpList_load_row rfl 27 (.tmp 7) rfl w1.heap.size rfl 27 #[.int .i64 author, .int .i64 0, .string ⟨#[]⟩, .int .i64 time, .int .i64 1, .int .i64 aa, .int .i64 (1 + q), .int .i64 (time + r), .slice none 0 0, .slice none 0 0, .string ⟨#[]⟩, .int .i64 0, .string ⟨#[]⟩] (0, 0) _ HM9.out.cur Tryd.underlying27 rfl (by kernel_rfl) ?_
        | refine wpList_store_row rfl 27 (.tmp 6) (.tmp 88) rfl w.heap.size #[.int .i64 author, .int .i64 0, .string ⟨#[]⟩, .int .i64 time, .int .i64 1, .int .i64 aa, .int .i64 (1 + q), .int .i64 (time + r), .slice none 0 0, .slice none 0 0, .string ⟨#[]⟩, .int .i64 0, .string ⟨#[]⟩] rfl rfl 27 _ HM9.out.res (by kernel_rfl) rfl (by simp [Value.oneCell']) ?_)
      refine bodyPost_ret (v := .agg #[.int .i64 author, .int .i64 0, .string ⟨#[]⟩, .int .i64 time, .int .i64 1, .int .i64 aa, .int .i64 (1 + q), .int .i64 (time + r), .slice none 0 0, .slice none 0 0, .string ⟨#[]⟩, .int .i64 0, .string ⟨#[]⟩]) (results_cell_row rfl _ _ w.heap.size 27 #[.int .i64 author, .int .i64 0, .string ⟨#[]⟩, .int .i64 time, .int .i64 1, .int .i64 aa, .int .i64 (1 + q), .int .i64 (time + r), .slice none 0 0, .slice none 0 0, .string ⟨#[]⟩, .int .i64 0, .string ⟨#[]⟩] (0, 0) _ rfl (setRow_heap _ _ _ _ _ _ HM9.out.res) Tryd.underlying27 rfl (by kernel_rfl)) rfl
        ⟨⟨author, 0, ⟨#[]⟩, time, 1, aa, (1 + q), (time + r), [], [], ⟨#[]⟩, 0, ⟨#[]⟩⟩, none, 0, 0, none, 0, 0, rfl, Row.nilRow _ _, Row.nilRow _ _, New.none0 _ _, New.none0 _ _, Nat.zero_le _, Nat.zero_le _, Nat.zero_le _, Nat.zero_le _, rfl, rfl, HM9.out.gone _⟩
  · subst hk
    go_wp2_with fail
    clear hc4
    refine (next_g L D t 4 _ HM.out.dice (by omega) (by omega)).mono ?_
    rintro e w2 ⟨p, rfl, hp0, hpm, hg⟩
    replace HM := Lib.hid (HM.out.gave hg); clear hg
    have hf5 : w2.frozen? ⟨w1.heap.size, 5, none⟩ = false := frozen_of_row _ _ _ _ _ HM.out.cur
    have hc5 : w2.cell? ⟨w1.heap.size, 5, none⟩ = some (.int .i64 0) := by rw [cell_of_row _ _ _ _ _ _ HM.out.cur]; rfl
    have HF : Hid (Mid L D t w w1.heap.size #[.int .i64 author, .int .i64 0, .string ⟨#[]⟩, .int .i64 time, .int .i64 2, .int .i64 p, .int .i64 0, .int .i64 0, .slice none 0 0, .slice none 0 0, .string ⟨#[]⟩, .int .i64 0, .string ⟨#[]⟩] _) := Lib.hid (HM.out.set 5 (.int .i64 p))
    go_wp2_with (first | refine stop_at (.load 27 (.tmp 7)) rfl (Mid L D t w w1.heap.size #[.int .i64 author, .int .i64 0, .string ⟨#[]⟩, .int .i64 time, .int .i64 2, .int .i64 p, .int .i64 0, .int .i64 0, .slice none 0 0, .slice none 0 0, .string ⟨#[]⟩, .int .i64 0, .string ⟨#[]⟩]) HF.out ?_)
    refine Lib.hid ?_
    intro w9 hM9
    have HM9 := Lib.hid hM9; clear hM9
    go_wp2_with (first
      | refine wpList_load_row rfl 27 (.tmp 7) rfl w1.heap.size rfl 27 #[.int .i64 author, .int .i64 0, .string ⟨#[]⟩, .int .i64 time, .int .i64 2, .int .i64 p, .int .i64 0, .int .i64 0, .slice none 0 0, .slice none 0 0, .string ⟨#[]⟩, .int .i64 0, .string ⟨#[]⟩] (0, 0) _ HM9.out.cur Tryd.underlying27 rfl (by kernel_rfl) ?_
      | refine wpList_store_row rfl 27 (.tmp 6) (.tmp 88) rfl w.heap.size #[.int .i64 author, .int .i64 0, .string ⟨#[]⟩, .int .i64 time, .int .i64 2, .int .i64 p, .int .i64 0, .int .i64 0, .slice none 0 0, .slice none 0 0, .string ⟨#[]⟩, .int .i64 0, .string ⟨#[]⟩] rfl rfl 27 _ HM9.out.res (by kernel_rfl) rfl (by simp [Value.oneCell']) ?_)
    refine bodyPost_ret (v := .agg #[.int .i64 author, .int .i64 0, .string ⟨#[]⟩, .int .i64 time, .int .i64 2, .int .i64 p, .int .i64 0, .int .i64 0, .slice none 0 0, .slice none 0 0, .string ⟨#[]⟩, .int .i64 0, .string ⟨#[]⟩]) (results_cell_row rfl _ _ w.heap.size 27 #[.int .i64 author, .int .i64 0, .string ⟨#[]⟩, .int .i64 time, .int .i64 2, .int .i64 p, .int .i64 0, .int .i64 0, .slice none 0 0, .slice none 0 0, .string ⟨#[]⟩, .int .i64 0, .string ⟨#[]⟩] (0, 0) _ rfl (setRow_heap _ _ _ _ _ _ HM9.out.res) Tryd.underlying27 rfl (by kernel_rfl)) rfl
      ⟨⟨author, 0, ⟨#[]⟩, time, 2, p, 0, 0, [], [], ⟨#[]⟩, 0, ⟨#[]⟩⟩, none, 0, 0, none, 0, 0, rfl, Row.nilRow _ _, Row.nilRow _ _, New.none0 _ _, New.none0 _ _, Nat.zero_le _, Nat.zero_le _, Nat.zero_le _, Nat.zero_le _, rfl, rfl, HM9.out.gone _⟩
  · have hb1 : (kd == 1) = false := by simpa using hk.1
    have hb2 : (kd == 2) = false := by simpa using hk.2
    clear hk
    go_wp2_with fail
    clear hc4 hb1 hb2
    refine (next_g L D t 9 _ HM.out.dice (by omega) (by omega)).mono ?_
    rintro e w2 ⟨p, rfl, hp0, hpm, hg⟩
    replace HM := Lib.hid (HM.out.gave hg); clear hg
    go_wp2_with fail
    have hlow : w.heap.size < w2.heap.size := Nat.lt_trans HM.out.low HM.out.lt
    have HR : Hid (Row (w2.alloc (.cells (intsV [0, 1099511627776]).toArray 3)) (some ⟨w2.heap.size, 0, none⟩) 2 2 1 (intsV [0, 1099511627776])) := Lib.hid (Row.of_block (cs := (intsV [0, 1099511627776]).toArray) (heap_alloc_new _ _) rfl)
    replace HM := Lib.hid (HM.out.later (one_new w2 (.cells (intsV [0, 1099511627776]).toArray 3)))
    refine (of_g L D t (some ⟨w2.heap.size, 0, none⟩) 2 2 [0, 1099511627776] (w2.alloc (.cells (intsV [0, 1099511627776]).toArray 3)) HM.out.dice HR.out (fun ad e => by injection e with e; subst e; show w2.heap.size ≠ D; omega) (by omega) (by omega)).mono ?_
    clear HR
    generalize (w2.alloc (.cells (intsV [0, 1099511627776]).toArray 3)) = z at HM ⊢
    rintro e w3 ⟨q, rfl, hin, hg⟩
    replace HM := Lib.hid (HM.out.gave hg); clear hg
    clear hin hlow
    go_wp2_with fail
    refine (next_g L D t 3 _ HM.out.dice (by omega) (by omega)).mono ?_
    rintro e w4 ⟨r, rfl, hr0, hrm, hg⟩
    replace HM := Lib.hid (HM.out.gave hg); clear hg
    have hf5 : w4.frozen? ⟨w1.heap.size, 5, none⟩ = false := frozen_of_row _ _ _ _ _ HM.out.cur
    have hc5 : w4.cell? ⟨w1.heap.size, 5, none⟩ = some (.int .i64 0) := by rw [cell_of_row _ _ _ _ _ _ HM.out.cur]; rfl
    have hf6 : w4.frozen? ⟨w1.heap.size, 6, none⟩ = false := frozen_of_row _ _ _ _ _ HM.out.cur
    have hc6 : w4.cell? ⟨w1.heap.size, 6, none⟩ = some (.int .i64 0) := by rw [cell_of_row _ _ _ _ _ _ HM.out.cur]; rfl
    have hf7 : w4.frozen? ⟨w1.heap.size, 7, none⟩ = false := frozen_of_row _ _ _ _ _ HM.out.cur
    have hc7 : w4.cell? ⟨w1.heap.size, 7, none⟩ = some (.int .i64 0) := by rw [cell_of_row _ _ _ _ _ _ HM.out.cur]; rfl
    have HF : Hid (Mid L D t w w1.heap.size #[.int .i64 author, .int .i64 0, .string ⟨#[]⟩, .int .i64 time, .int .i64 kd, .int .i64 p, .int .i64 q, .int .i64 r, .slice none 0 0, .slice none 0 0, .string ⟨#[]⟩, .int .i64 0, .string ⟨#[]⟩] _) := Lib.hid (((HM.out.set 5 (.int .i64 p)).set 6 (.int .i64 q)).set 7 (.int .i64 r))
    clear HM
    go_wp2_with fail
    clear hf5 hf6 hf7 hc5 hc6 hc7
    refine (next_g L D t 3 _ HF.out.dice (by omega) (by omega)).mono ?_
    rintro e w5 ⟨N, rfl, hN0, hN3, hg⟩
    replace HF := Lib.hid (HF.out.gave hg); clear hg
    go_wp2_with fail
    go_loopw [8] (fun i wr => ∃ j : Nat, i = .int .i64 j ∧ ∃ (A : Option Addr) (n c : Nat) (l : List Int), n + j ≤ 2 ∧ Hid (Mid L D t w w1.heap.size #[.int .i64 author, .int .i64 0, .string ⟨#[]⟩, .int .i64 time, .int .i64 kd, .int .i64 p, .int .i64 q, .int .i64 r, (.slice A n c), .slice none 0 0, .string ⟨#[]⟩, .int .i64 0, .string ⟨#[]⟩] wr ∧ l.length = n ∧ wr.ownsRow (w1.heap.size + 1) 3 1 (.slice A n c) n (intsV l))) (fun i _ => (intOf i).toNat)
    case atStart => exact ⟨N.toNat, by go_num, none, 0, 0, [], by omega, Lib.hid ⟨HF.out, rfl, World.ownsRow_nil _ _ _ _⟩⟩
    case round =>
      obtain ⟨j, rfl, A, n, c, l, hnj, HQ⟩ := hrel
      have HM := Lib.hid HQ.out.1; have HL := Lib.hid HQ.out.2.1; have HO := Lib.hid HQ.out.2.2; clear HQ
      by_cases hlt : 0 < j
      · go_wp2_with fail
        have hDS : D < w1.heap.size + 1 := Nat.lt_succ_of_lt (Nat.lt_trans HM.out.dlt HM.out.low)
        have hlow : D < wr.heap.size := by have := HM.out.lt; omega
        refine wp_region_flow (by kernel_rfl) (fun _ _ => True) ?_
        rw [show wr.heap.size = wr.drew.heap.size from rfl] at hlow
        replace HM := Lib.hid (HM.out.later (Later.drew wr)); replace HO := Lib.hid (World.ownsRow.drew HO.out)
        generalize wr.drew = x0 at HM HO hlow ⊢
        refine flow_reads (fun _ => trivial) (by kernel_rfl) [0, 2] (fuel := 7) (by kernel_rfl) ?_
        simp only [List.map_cons, List.map_nil, pick, List.getD_cons_zero, List.getD_cons_succ]
        repeat (go_big_quiet_step (fail))
        refine wpQuiet_nil ?_
        refine flow_two (fun _ _ _ _ _ => trivial) (fun _ => trivial) 1 3 (by kernel_rfl) (by decide) (by decide) ?_ ?_ <;> simp only [pick, List.getD_cons_zero, List.getD_cons_succ]
        · have hc8 : x0.cell? ⟨w1.heap.size, 8, none⟩ = some (.slice A n c) := (cell_of_row _ _ _ _ _ _ HM.out.cur).trans rfl
          go_wp2_with fail
          clear hc8
          refine pieceEnd_normal ⟨trivial, ?_⟩
          refine flow_one (fun _ _ _ _ _ => trivial) (fun _ => trivial) 3 (by kernel_rfl) (by decide) ?_
          simp only [pick, List.getD_cons_zero, List.getD_cons_succ]
          go_wp2_with fail
          refine pieceEnd_normal ⟨trivial, ?_⟩
          have HR : Hid (Row (x0.alloc (.cells #[.int .i64 0, .int .i64 5, .int .i64 1099511627776] 3)) (some ⟨x0.heap.size, 0, none⟩) 3 3 1 (intsV [0, 5, 1099511627776])) := Lib.hid (Row.of_block (cs := (intsV [0, 5, 1099511627776]).toArray) (heap_alloc_new _ _) rfl)
          replace HM := Lib.hid (HM.out.later (one_new x0 (.cells #[.int .i64 0, .int .i64 5, .int .i64 1099511627776] 3))); replace HO := Lib.hid (World.ownsRow.alloc HO.out (.cells #[.int .i64 0, .int .i64 5, .int .i64 1099511627776] 3))
          generalize x0.alloc (.cells #[.int .i64 0, .int .i64 5, .int .i64 1099511627776] 3) = x1 at HM HO HR ⊢
          refine flow_one (fun _ _ _ _ _ => trivial) (fun _ => trivial) 4 (by kernel_rfl) (by decide) ?_
          simp only [pick, List.getD_cons_zero, List.getD_cons_succ]
          go_wp2_with fail
          refine (of_g L D t (some ⟨x0.heap.size, 0, none⟩) 3 3 [0, 5, 1099511627776] x1 HM.out.dice HR.out (fun ad e => by injection e with e; subst e; show x0.heap.size ≠ D; omega) (by omega) (by omega)).mono ?_
          rintro e x2 ⟨v, rfl, -, hg⟩
          replace HO := Lib.hid (own_but HO.out hg.2 hDS); replace HM := Lib.hid (HM.out.gave hg); clear hg HR
          go_wp2_with fail
          refine pieceEnd_normal ⟨trivial, ?_⟩
          refine flow_one (fun _ _ _ _ _ => trivial) (fun _ => trivial) 5 (by kernel_rfl) (by decide) ?_
          simp only [pick, List.getD_cons_zero, List.getD_cons_succ]
          go_wp2_with fail
          refine pieceEnd_normal ⟨trivial, ?_⟩
          refine flow_one (fun _ _ _ _ _ => trivial) (fun _ => trivial) 6 (by kernel_rfl) (by decide) ?_
          simp only [pick, List.getD_cons_zero, List.getD_cons_succ]
          have hsz : w1.heap.size + 1 ≤ x2.heap.size := HM.out.lt
          go_wp2_with (at_builtin; go_must (refine wpList_app_new x2 rfl (.tmp 34) (.tmp 38) 22 3 rfl (w1.heap.size + 1) Tryd.underlying22 i64_info rfl _ n (intsV l) HO.out rfl 1 #[.int .i64 v] rfl (by simp [Value.oneCell']) rfl rfl (by unfold maxLen; omega) (by omega) hsz ?_); intro v3 w3 ho3 hb3; have HO3 := Lib.hid ho3; have HB3 := Lib.hid hb3; clear ho3 hb3)
          clear hsz HO
          replace HM := Lib.hid (HM.out.belowS HB3.out); clear HB3
          obtain ⟨A3, c3, rfl, -⟩ := Row.of_own HO3.out
          refine flow_one (fun _ _ _ _ _ => trivial) (fun _ => trivial) 7 (by kernel_rfl) (by decide) ?_
          simp only [pick, List.getD_cons_zero, List.getD_cons_succ]
          go_wp2_with fail
          refine pieceEnd_normal ⟨trivial, ?_⟩
          refine flow_one (fun _ _ _ _ _ => trivial) (fun _ => trivial) 8 (by kernel_rfl) (by decide) ?_
          simp only [pick, List.getD_cons_zero, List.getD_cons_succ]
          have hf8 : w3.frozen? ⟨w1.heap.size, 8, none⟩ = false := frozen_of_row _ _ _ _ _ HM.out.cur
          have hc8 : w3.cell? ⟨w1.heap.size, 8, none⟩ = some (.slice A n c) := (cell_of_row _ _ _ _ _ _ HM.out.cur).trans rfl
          go_wp2_with fail
          clear hf8 hc8
          refine pieceEnd_normal ⟨trivial, ?_⟩
          refine flow_done (by kernel_rfl) ?_
          have HM2 : Hid (Mid L D t w w1.heap.size #[.int .i64 author, .int .i64 0, .string ⟨#[]⟩, .int .i64 time, .int .i64 kd, .int .i64 p, .int .i64 q, .int .i64 r, (.slice A3 (n + 1) c3), .slice none 0 0, .string ⟨#[]⟩, .int .i64 0, .string ⟨#[]⟩] _) := Lib.hid (HM.out.set 8 (.slice A3 (n + 1) c3))
          have HO2 := Lib.hid (ownsRow_setCell_below HO3.out (a := ⟨w1.heap.size, 8, none⟩) (Nat.lt_succ_self _) (.slice A3 (n + 1) c3))
          clear HM HO3
          go_wp2_with fail
          refine ⟨⟨j - 1, by go_num, A3, n + 1, c3, l ++ [v], by omega, Lib.hid ⟨HM2.out, by rw [List.length_append, HL.out]; rfl, by rw [intsV_app]; exact HO2.out⟩⟩, by simp [intOf]; omega⟩
        · go_wp2_with fail
          refine pieceEnd_normal ⟨trivial, ?_⟩
          have HR : Hid (Row (x0.alloc (.cells #[.int .i64 0, .int .i64 5, .int .i64 1099511627776] 3)) (some ⟨x0.heap.size, 0, none⟩) 3 3 1 (intsV [0, 5, 1099511627776])) := Lib.hid (Row.of_block (cs := (intsV [0, 5, 1099511627776]).toArray) (heap_alloc_new _ _) rfl)
          replace HM := Lib.hid (HM.out.later (one_new x0 (.cells #[.int .i64 0, .int .i64 5, .int .i64 1099511627776] 3))); replace HO := Lib.hid (World.ownsRow.alloc HO.out (.cells #[.int .i64 0, .int .i64 5, .int .i64 1099511627776] 3))
          generalize x0.alloc (.cells #[.int .i64 0, .int .i64 5, .int .i64 1099511627776] 3) = x1 at HM HO HR ⊢
          refine flow_two (fun _ _ _ _ _ => trivial) (fun _ => trivial) 1 4 (by kernel_rfl) (by decide) (by decide) ?_ ?_ <;> simp only [pick, List.getD_cons_zero, List.getD_cons_succ]
          · have hc8 : x1.cell? ⟨w1.heap.size, 8, none⟩ = some (.slice A n c) := (cell_of_row _ _ _ _ _ _ HM.out.cur).trans rfl
            go_wp2_with fail
            clear hc8
            refine pieceEnd_normal ⟨trivial, ?_⟩
            refine flow_one (fun _ _ _ _ _ => trivial) (fun _ => trivial) 4 (by kernel_rfl) (by decide) ?_
            simp only [pick, List.getD_cons_zero, List.getD_cons_succ]
            go_wp2_with fail
            refine (of_g L D t (some ⟨x0.heap.size, 0, none⟩) 3 3 [0, 5, 1099511627776] x1 HM.out.dice HR.out (fun ad e => by injection e with e; subst e; show x0.heap.size ≠ D; omega) (by omega) (by omega)).mono ?_
            rintro e x2 ⟨v, rfl, -, hg⟩
            replace HO := Lib.hid (own_but HO.out hg.2 hDS); replace HM := Lib.hid (HM.out.gave hg); clear hg HR
            go_wp2_with fail
            refine pieceEnd_normal ⟨trivial, ?_⟩
            refine flow_one (fun _ _ _ _ _ => trivial) (fun _ => trivial) 5 (by kernel_rfl) (by decide) ?_
            simp only [pick, List.getD_cons_zero, List.getD_cons_succ]
            go_wp2_with fail
            refine pieceEnd_normal ⟨trivial, ?_⟩
            refine flow_one (fun _ _ _ _ _ => trivial) (fun _ => trivial) 6 (by kernel_rfl) (by decide) ?_
            simp only [pick, List.getD_cons_zero, List.getD_cons_succ]
            have hsz : w1.heap.size + 1 ≤ x2.heap.size := HM.out.lt
            go_wp2_with (at_builtin; go_must (refine wpList_app_new x2 rfl (.tmp 34) (.tmp 38) 22 3 rfl (w1.heap.size + 1) Tryd.underlying22 i64_info rfl _ n (intsV l) HO.out rfl 1 #[.int .i64 v] rfl (by simp [Value.oneCell']) rfl rfl (by unfold maxLen; omega) (by omega) hsz ?_); intro v3 w3 ho3 hb3; have HO3 := Lib.hid ho3; have HB3 := Lib.hid hb3; clear ho3 hb3)
            clear hsz HO
            replace HM := Lib.hid (HM.out.belowS HB3.out); clear HB3
            obtain ⟨A3, c3, rfl, -⟩ := Row.of_own HO3.out
            refine flow_one (fun _ _ _ _ _ => trivial) (fun _ => trivial) 7 (by kernel_rfl) (by decide) ?_
            simp only [pick, List.getD_cons_zero, List.getD_cons_succ]
            go_wp2_with fail
            refine pieceEnd_normal ⟨trivial, ?_⟩
            refine flow_one (fun _ _ _ _ _ => trivial) (fun _ => trivial) 8 (by kernel_rfl) (by decide) ?_
            simp only [pick, List.getD_cons_zero, List.getD_cons_succ]
            have hf8 : w3.frozen? ⟨w1.heap.size, 8, none⟩ = false := frozen_of_row _ _ _ _ _ HM.out.cur
            have hc8 : w3.cell? ⟨w1.heap.size, 8, none⟩ = some (.slice A n c) := (cell_of_row _ _ _ _ _ _ HM.out.cur).trans rfl
            go_wp2_with fail
            clear hf8 hc8
            refine pieceEnd_normal ⟨trivial, ?_⟩
            refine flow_done (by kernel_rfl) ?_
            have HM2 : Hid (Mid L D t w w1.heap.size #[.int .i64 author, .int .i64 0, .string ⟨#[]⟩, .int .i64 time, .int .i64 kd, .int .i64 p, .int .i64 q, .int .i64 r, (.slice A3 (n + 1) c3), .slice none 0 0, .string ⟨#[]⟩, .int .i64 0, .string ⟨#[]⟩] _) := Lib.hid (HM.out.set 8 (.slice A3 (n + 1) c3))
            have HO2 := Lib.hid (ownsRow_setCell_below HO3.out (a := ⟨w1.heap.size, 8, none⟩) (Nat.lt_succ_self _) (.slice A3 (n + 1) c3))
            clear HM HO3
            go_wp2_with fail
            refine ⟨⟨j - 1, by go_num, A3, n + 1, c3, l ++ [v], by omega, Lib.hid ⟨HM2.out, by rw [List.length_append, HL.out]; rfl, by rw [intsV_app]; exact HO2.out⟩⟩, by simp [intOf]; omega⟩
          · go_wp2_with fail
            refine (of_g L D t (some ⟨x0.heap.size, 0, none⟩) 3 3 [0, 5, 1099511627776] x1 HM.out.dice HR.out (fun ad e => by injection e with e; subst e; show x0.heap.size ≠ D; omega) (by omega) (by omega)).mono ?_
            rintro e x2 ⟨v, rfl, -, hg⟩
            replace HO := Lib.hid (own_but HO.out hg.2 hDS); replace HM := Lib.hid (HM.out.gave hg); clear hg HR
            go_wp2_with fail
            refine pieceEnd_normal ⟨trivial, ?_⟩
            refine flow_two (fun _ _ _ _ _ => trivial) (fun _ => trivial) 1 5 (by kernel_rfl) (by decide) (by decide) ?_ ?_ <;> simp only [pick, List.getD_cons_zero, List.getD_cons_succ]
            · have hc8 : x2.cell? ⟨w1.heap.size, 8, none⟩ = some (.slice A n c) := (cell_of_row _ _ _ _ _ _ HM.out.cur).trans rfl
              go_wp2_with fail
              clear hc8
              refine pieceEnd_normal ⟨trivial, ?_⟩
              refine flow_one (fun _ _ _ _ _ => trivial) (fun _ => trivial) 5 (by kernel_rfl) (by decide) ?_
              simp only [pick, List.getD_cons_zero, List.getD_cons_succ]
              go_wp2_with fail
              refine pieceEnd_normal ⟨trivial, ?_⟩
              refine flow_one (fun _ _ _ _ _ => trivial) (fun _ => trivial) 6 (by kernel_rfl) (by decide) ?_
              simp only [pick, List.getD_cons_zero, List.getD_cons_succ]
              have hsz : w1.heap.size + 1 ≤ x2.heap.size := HM.out.lt
              go_wp2_with (at_builtin; go_must (refine wpList_app_new x2 rfl (.tmp 34) (.tmp 38) 22 3 rfl (w1.heap.size + 1) Tryd.underlying22 i64_info rfl _ n (intsV l) HO.out rfl 1 #[.int .i64 v] rfl (by simp [Value.oneCell']) rfl rfl (by unfold maxLen; omega) (by omega) hsz ?_); intro v3 w3 ho3 hb3; have HO3 := Lib.hid ho3; have HB3 := Lib.hid hb3; clear ho3 hb3)
              clear hsz HO
              replace HM := Lib.hid (HM.out.belowS HB3.out); clear HB3
              obtain ⟨A3, c3, rfl, -⟩ := Row.of_own HO3.out
              refine flow_one (fun _ _ _ _ _ => trivial) (fun _ => trivial) 7 (by kernel_rfl) (by decide) ?_
              simp only [pick, List.getD_cons_zero, List.getD_cons_succ]
              go_wp2_with fail
              refine pieceEnd_normal ⟨trivial, ?_⟩
              refine flow_one (fun _ _ _ _ _ => trivial) (fun _ => trivial) 8 (by kernel_rfl) (by decide) ?_
              simp only [pick, List.getD_cons_zero, List.getD_cons_succ]
              have hf8 : w3.frozen? ⟨w1.heap.size, 8, none⟩ = false := frozen_of_row _ _ _ _ _ HM.out.cur
              have hc8 : w3.cell? ⟨w1.heap.size, 8, none⟩ = some (.slice A n c) := (cell_of_row _ _ _ _ _ _ HM.out.cur).trans rfl
              go_wp2_with fail
              clear hf8 hc8
              refine pieceEnd_normal ⟨trivial, ?_⟩
              refine flow_done (by kernel_rfl) ?_
              have HM2 : Hid (Mid L D t w w1.heap.size #[.int .i64 author, .int .i64 0, .string ⟨#[]⟩, .int .i64 time, .int .i64 kd, .int .i64 p, .int .i64 q, .int .i64 r, (.slice A3 (n + 1) c3), .slice none 0 0, .string ⟨#[]⟩, .int .i64 0, .string ⟨#[]⟩] _) := Lib.hid (HM.out.set 8 (.slice A3 (n + 1) c3))
              have HO2 := Lib.hid (ownsRow_setCell_below HO3.out (a := ⟨w1.heap.size, 8, none⟩) (Nat.lt_succ_self _) (.slice A3 (n + 1) c3))
              clear HM HO3
              go_wp2_with fail
              refine ⟨⟨j - 1, by go_num, A3, n + 1, c3, l ++ [v], by omega, Lib.hid ⟨HM2.out, by rw [List.length_append, HL.out]; rfl, by rw [intsV_app]; exact HO2.out⟩⟩, by simp [intOf]; omega⟩
            · go_wp2_with fail
              refine pieceEnd_normal ⟨trivial, ?_⟩
              have HMa := Lib.hid (HM.out.later (one_new x2 (.cells #[.int .i64 v] 3)))
              refine flow_one (fun _ _ _ _ _ => trivial) (fun _ => trivial) 1 (by kernel_rfl) (by decide) ?_
              simp only [pick, List.getD_cons_zero, List.getD_cons_succ]
              have hc8 : (x2.alloc (.cells #[.int .i64 v] 3)).cell? ⟨w1.heap.size, 8, none⟩ = some (.slice A n c) := (cell_of_row _ _ _ _ _ _ HMa.out.cur).trans rfl
              go_wp2_with fail
              clear hc8
              refine pieceEnd_normal ⟨trivial, ?_⟩
              clear HMa
              refine flow_one (fun _ _ _ _ _ => trivial) (fun _ => trivial) 6 (by kernel_rfl) (by decide) ?_
              simp only [pick, List.getD_cons_zero, List.getD_cons_succ]
              have hsz : w1.heap.size + 1 ≤ x2.heap.size := HM.out.lt
              go_wp2_with (at_builtin; go_must (refine wpList_app_new x2 rfl (.tmp 34) (.tmp 38) 22 3 rfl (w1.heap.size + 1) Tryd.underlying22 i64_info rfl _ n (intsV l) HO.out rfl 1 #[.int .i64 v] rfl (by simp [Value.oneCell']) rfl rfl (by unfold maxLen; omega) (by omega) hsz ?_); intro v3 w3 ho3 hb3; have HO3 := Lib.hid ho3; have HB3 := Lib.hid hb3; clear ho3 hb3)
              clear hsz HO
              replace HM := Lib.hid (HM.out.belowS HB3.out); clear HB3
              obtain ⟨A3, c3, rfl, -⟩ := Row.of_own HO3.out
              refine flow_one (fun _ _ _ _ _ => trivial) (fun _ => trivial) 7 (by kernel_rfl) (by decide) ?_
              simp only [pick, List.getD_cons_zero, List.getD_cons_succ]
              go_wp2_with fail
              refine pieceEnd_normal ⟨trivial, ?_⟩
              refine flow_one (fun _ _ _ _ _ => trivial) (fun _ => trivial) 8 (by kernel_rfl) (by decide) ?_
              simp only [pick, List.getD_cons_zero, List.getD_cons_succ]
              have hf8 : w3.frozen? ⟨w1.heap.size, 8, none⟩ = false := frozen_of_row _ _ _ _ _ HM.out.cur
              have hc8 : w3.cell? ⟨w1.heap.size, 8, none⟩ = some (.slice A n c) := (cell_of_row _ _ _ _ _ _ HM.out.cur).trans rfl
              go_wp2_with fail
              clear hf8 hc8
              refine pieceEnd_normal ⟨trivial, ?_⟩
              refine flow_done (by kernel_rfl) ?_
              have HM2 : Hid (Mid L D t w w1.heap.size #[.int .i64 author, .int .i64 0, .string ⟨#[]⟩, .int .i64 time, .int .i64 kd, .int .i64 p, .int .i64 q, .int .i64 r, (.slice A3 (n + 1) c3), .slice none 0 0, .string ⟨#[]⟩, .int .i64 0, .string ⟨#[]⟩] _) := Lib.hid (HM.out.set 8 (.slice A3 (n + 1) c3))
              have HO2 := Lib.hid (ownsRow_setCell_below HO3.out (a := ⟨w1.heap.size, 8, none⟩) (Nat.lt_succ_self _) (.slice A3 (n + 1) c3))
              clear HM HO3
              go_wp2_with fail
              refine ⟨⟨j - 1, by go_num, A3, n + 1, c3, l ++ [v], by omega, Lib.hid ⟨HM2.out, by rw [List.length_append, HL.out]; rfl, by rw [intsV_app]; exact HO2.out⟩⟩, by simp [intOf]; omega⟩
      · have hj0 : j = 0 := by omega
        subst hj0
        go_wp2_with fail
        have HR : Hid (MidR L D t w w1.heap.size #[.int .i64 author, .int .i64 0, .string ⟨#[]⟩, .int .i64 time, .int .i64 kd, .int .i64 p, .int .i64 q, .int .i64 r, (.slice A n c), .slice none 0 0, .string ⟨#[]⟩, .int .i64 0, .string ⟨#[]⟩] A n c l none 0 0 [] wr) := Lib.hid ⟨HM.out, by have := Row.of_own HO.out; obtain ⟨A', c', e, h⟩ := this; cases e; exact h, Row.nilRow _ _, up_own HO.out, Up.none0 _ _⟩
        clear HM HO
        refine (one_g L D t 3 _ HR.out.mid.dice (by omega) (by omega)).mono ?_
        rintro e w7 ⟨bb, rfl, hg⟩
        replace HR := Lib.hid (HR.out.gave hg); clear hg
        cases bb
        · have HP1 : Hid (([] : List PinD).length ≤ 1) := Lib.hid (Nat.zero_le _)
          have HP2 : Hid ((pinsBs ([] : List PinD)).length ≤ 56) := Lib.hid (Nat.zero_le _)
          go_wp2_with fail
          generalize ([] : List PinD) = ps at HR HP1 HP2
          refine (bytes_g L D t 5 _ HR.out.mid.dice (by omega) (by omega)).mono ?_
          rintro e w8 ⟨A2, n2, c2, us, rfl, hrow, hus, hg⟩
          replace HR : Hid (MidR L D t w w1.heap.size #[.int .i64 author, .int .i64 0, .string ⟨#[]⟩, .int .i64 time, .int .i64 kd, .int .i64 p, .int .i64 q, .int .i64 r, (.slice A n c), (.slice none 0 0), .string ⟨#[]⟩, .int .i64 0, .string ⟨#[]⟩] A n c l none 0 0 ps w8) := Lib.hid (HR.out.gave hg); clear hg
          have hcv := conv_at hrow (Below.refl _ _) rfl
          clear hrow
          have hf10 : w8.frozen? ⟨w1.heap.size, 10, none⟩ = false := frozen_of_row _ _ _ _ _ HR.out.mid.cur
          have hc10 : w8.cell? ⟨w1.heap.size, 10, none⟩ = some (.string ⟨#[]⟩) := (cell_of_row _ _ _ _ _ _ HR.out.mid.cur).trans rfl
          have HF : Hid (MidR L D t w w1.heap.size #[.int .i64 author, .int .i64 0, .string ⟨#[]⟩, .int .i64 time, .int .i64 kd, .int .i64 p, .int .i64 q, .int .i64 r, (.slice A n c), (.slice none 0 0), .string (strOf us), .int .i64 0, .string ⟨#[]⟩] A n c l none 0 0 ps _) := Lib.hid (HR.out.set 10 (.string (strOf us)))
          have HU := Lib.hid hus; clear hus
          go_wp2_with (refine stop_at (.load 27 (.tmp 7)) rfl (MidR L D t w w1.heap.size #[.int .i64 author, .int .i64 0, .string ⟨#[]⟩, .int .i64 time, .int .i64 kd, .int .i64 p, .int .i64 q, .int .i64 r, (.slice A n c), (.slice none 0 0), .string (strOf us), .int .i64 0, .string ⟨#[]⟩] A n c l none 0 0 ps) HF.out ?_)
          have hus := HU.out
          refine Lib.hid ?_
          intro w9 hM9
          have HM9 := Lib.hid hM9; clear hM9
          go_wp2_with (first
            | refine wpList_load_row rfl 27 (.tmp 7) rfl w1.heap.size rfl 27 #[.int .i64 author, .int .i64 0, .string ⟨#[]⟩, .int .i64 time, .int .i64 kd, .int .i64 p, .int .i64 q, .int .i64 r, (.slice A n c), (.slice none 0 0), .string (strOf us), .int .i64 0, .string ⟨#[]⟩] (0, 0) _ HM9.out.mid.cur Tryd.underlying27 rfl (by kernel_rfl) ?_
            | refine wpList_store_row rfl 27 (.tmp 6) (.tmp 88) rfl w.heap.size #[.int .i64 author, .int .i64 0, .string ⟨#[]⟩, .int .i64 time, .int .i64 kd, .int .i64 p, .int .i64 q, .int .i64 r, (.slice A n c), (.slice none 0 0), .string (strOf us), .int .i64 0, .string ⟨#[]⟩] rfl rfl 27 _ HM9.out.mid.res (by kernel_rfl) rfl (by simp [Value.oneCell']) ?_)
          obtain ⟨h1, h2, h3, h4, h5⟩ := HM9.out.gone #[.int .i64 author, .int .i64 0, .string ⟨#[]⟩, .int .i64 time, .int .i64 kd, .int .i64 p, .int .i64 q, .int .i64 r, (.slice A n c), (.slice none 0 0), .string (strOf us), .int .i64 0, .string ⟨#[]⟩]
          refine bodyPost_ret (v := .agg #[.int .i64 author, .int .i64 0, .string ⟨#[]⟩, .int .i64 time, .int .i64 kd, .int .i64 p, .int .i64 q, .int .i64 r, (.slice A n c), (.slice none 0 0), .string (strOf us), .int .i64 0, .string ⟨#[]⟩]) (results_cell_row rfl _ _ w.heap.size 27 #[.int .i64 author, .int .i64 0, .string ⟨#[]⟩, .int .i64 time, .int .i64 kd, .int .i64 p, .int .i64 q, .int .i64 r, (.slice A n c), (.slice none 0 0), .string (strOf us), .int .i64 0, .string ⟨#[]⟩] (0, 0) _ rfl (setRow_heap _ _ _ _ _ _ HM9.out.mid.res) Tryd.underlying27 rfl (by kernel_rfl)) rfl
            ⟨⟨author, 0, ⟨#[]⟩, time, kd, p, q, r, l, ps, strOf us, 0, ⟨#[]⟩⟩, A, n, c, none, 0, 0, rfl, h1, h2, h3, h4, by show l.length ≤ 2; have := HL.out; omega, HP1.out, HP2.out, by show (strOf us).size ≤ 5; rw [strOf_size]; omega, rfl, rfl, h5⟩
        · go_wp2_with fail
          refine (next_g L D t 5 _ HR.out.mid.dice (by omega) (by omega)).mono ?_
          rintro e w8 ⟨pa, rfl, hpa0, hpam, hg⟩
          replace HR := Lib.hid (HR.out.gave hg); clear hg
          go_wp2_with fail
          refine (next_g L D t 4 _ HR.out.mid.dice (by omega) (by omega)).mono ?_
          rintro e w9 ⟨ph, rfl, hph0, hphm, hg⟩
          replace HR := Lib.hid (HR.out.gave hg); clear hg
          go_wp2_with fail
          refine (ddigest_g L D t _ HR.out.mid.dice).mono ?_
          rintro e w10 ⟨pd, rfl, hpd, hg⟩
          replace HR := Lib.hid (HR.out.gave hg); clear hg
          have HP1 : Hid ([(⟨pa, 1 + ph, pd⟩ : PinD)].length ≤ 1) := Lib.hid (Nat.le_refl _)
          have HP2 : Hid ((pinsBs [(⟨pa, 1 + ph, pd⟩ : PinD)]).length ≤ 56) := Lib.hid (by simp only [pinsBs, List.flatMap_cons, List.flatMap_nil, List.append_nil, pinBs, List.length_append, listB_len, textS_len, hpd]; exact Nat.le_refl _)
          clear hpd
          have hlt := HR.out.mid.lt
          replace HR : Hid (MidR L D t w w1.heap.size #[.int .i64 author, .int .i64 0, .string ⟨#[]⟩, .int .i64 time, .int .i64 kd, .int .i64 p, .int .i64 q, .int .i64 r, (.slice A n c), .slice none 0 0, .string ⟨#[]⟩, .int .i64 0, .string ⟨#[]⟩] A n c l none 0 0 [] (w10.alloc (.cells #[.int .i64 pa, .int .i64 (1 + ph), .string pd] 44))) := Lib.hid (HR.out.later (one_new _ _))
          replace HR : Hid (MidR L D t w w1.heap.size #[.int .i64 author, .int .i64 0, .string ⟨#[]⟩, .int .i64 time, .int .i64 kd, .int .i64 p, .int .i64 q, .int .i64 r, (.slice A n c), .slice none 0 0, .string ⟨#[]⟩, .int .i64 0, .string ⟨#[]⟩] A n c l (some ⟨w10.heap.size, 0, none⟩) 1 1 [⟨pa, 1 + ph, pd⟩] (w10.alloc (.cells #[.int .i64 pa, .int .i64 (1 + ph), .string pd] 44))) := Lib.hid (HR.out.pins (Row.of_block (heap_alloc_new _ _) rfl) (fun ad e => by injection e with e; subst e; exact ⟨hlt, by simp⟩))
          have hf9 : (w10.alloc (.cells #[.int .i64 pa, .int .i64 (1 + ph), .string pd] 44)).frozen? ⟨w1.heap.size, 9, none⟩ = false := frozen_of_row _ _ _ _ _ HR.out.mid.cur
          have hc9 : (w10.alloc (.cells #[.int .i64 pa, .int .i64 (1 + ph), .string pd] 44)).cell? ⟨w1.heap.size, 9, none⟩ = some (.slice none 0 0) := (cell_of_row _ _ _ _ _ _ HR.out.mid.cur).trans rfl
          replace HR : Hid (MidR L D t w w1.heap.size #[.int .i64 author, .int .i64 0, .string ⟨#[]⟩, .int .i64 time, .int .i64 kd, .int .i64 p, .int .i64 q, .int .i64 r, (.slice A n c), (.slice (some ⟨w10.heap.size, 0, none⟩) 1 1), .string ⟨#[]⟩, .int .i64 0, .string ⟨#[]⟩] A n c l (some ⟨w10.heap.size, 0, none⟩) 1 1 [⟨pa, 1 + ph, pd⟩] _) := Lib.hid (HR.out.set 9 (.slice (some ⟨w10.heap.size, 0, none⟩) 1 1))
          clear hlt
          go_wp2_with fail
          clear hf9 hc9
          generalize ([(⟨pa, 1 + ph, pd⟩ : PinD)]) = ps at HR HP1 HP2
          refine (bytes_g L D t 5 _ HR.out.mid.dice (by omega) (by omega)).mono ?_
          rintro e w8 ⟨A2, n2, c2, us, rfl, hrow, hus, hg⟩
          replace HR : Hid (MidR L D t w w1.heap.size #[.int .i64 author, .int .i64 0, .string ⟨#[]⟩, .int .i64 time, .int .i64 kd, .int .i64 p, .int .i64 q, .int .i64 r, (.slice A n c), (.slice (some ⟨w10.heap.size, 0, none⟩) 1 1), .string ⟨#[]⟩, .int .i64 0, .string ⟨#[]⟩] A n c l (some ⟨w10.heap.size, 0, none⟩) 1 1 ps w8) := Lib.hid (HR.out.gave hg); clear hg
          have hcv := conv_at hrow (Below.refl _ _) rfl
          clear hrow
          have hf10 : w8.frozen? ⟨w1.heap.size, 10, none⟩ = false := frozen_of_row _ _ _ _ _ HR.out.mid.cur
          have hc10 : w8.cell? ⟨w1.heap.size, 10, none⟩ = some (.string ⟨#[]⟩) := (cell_of_row _ _ _ _ _ _ HR.out.mid.cur).trans rfl
          have HF : Hid (MidR L D t w w1.heap.size #[.int .i64 author, .int .i64 0, .string ⟨#[]⟩, .int .i64 time, .int .i64 kd, .int .i64 p, .int .i64 q, .int .i64 r, (.slice A n c), (.slice (some ⟨w10.heap.size, 0, none⟩) 1 1), .string (strOf us), .int .i64 0, .string ⟨#[]⟩] A n c l (some ⟨w10.heap.size, 0, none⟩) 1 1 ps _) := Lib.hid (HR.out.set 10 (.string (strOf us)))
          have HU := Lib.hid hus; clear hus
          go_wp2_with (refine stop_at (.load 27 (.tmp 7)) rfl (MidR L D t w w1.heap.size #[.int .i64 author, .int .i64 0, .string ⟨#[]⟩, .int .i64 time, .int .i64 kd, .int .i64 p, .int .i64 q, .int .i64 r, (.slice A n c), (.slice (some ⟨w10.heap.size, 0, none⟩) 1 1), .string (strOf us), .int .i64 0, .string ⟨#[]⟩] A n c l (some ⟨w10.heap.size, 0, none⟩) 1 1 ps) HF.out ?_)
          have hus := HU.out
          refine Lib.hid ?_
          intro w9 hM9
          have HM9 := Lib.hid hM9; clear hM9
          go_wp2_with (first
            | refine wpList_load_row rfl 27 (.tmp 7) rfl w1.heap.size rfl 27 #[.int .i64 author, .int .i64 0, .string ⟨#[]⟩, .int .i64 time, .int .i64 kd, .int .i64 p, .int .i64 q, .int .i64 r, (.slice A n c), (.slice (some ⟨w10.heap.size, 0, none⟩) 1 1), .string (strOf us), .int .i64 0, .string ⟨#[]⟩] (0, 0) _ HM9.out.mid.cur Tryd.underlying27 rfl (by kernel_rfl) ?_
            | refine wpList_store_row rfl 27 (.tmp 6) (.tmp 88) rfl w.heap.size #[.int .i64 author, .int .i64 0, .string ⟨#[]⟩, .int .i64 time, .int .i64 kd, .int .i64 p, .int .i64 q, .int .i64 r, (.slice A n c), (.slice (some ⟨w10.heap.size, 0, none⟩) 1 1), .string (strOf us), .int .i64 0, .string ⟨#[]⟩] rfl rfl 27 _ HM9.out.mid.res (by kernel_rfl) rfl (by simp [Value.oneCell']) ?_)
          obtain ⟨h1, h2, h3, h4, h5⟩ := HM9.out.gone #[.int .i64 author, .int .i64 0, .string ⟨#[]⟩, .int .i64 time, .int .i64 kd, .int .i64 p, .int .i64 q, .int .i64 r, (.slice A n c), (.slice (some ⟨w10.heap.size, 0, none⟩) 1 1), .string (strOf us), .int .i64 0, .string ⟨#[]⟩]
          refine bodyPost_ret (v := .agg #[.int .i64 author, .int .i64 0, .string ⟨#[]⟩, .int .i64 time, .int .i64 kd, .int .i64 p, .int .i64 q, .int .i64 r, (.slice A n c), (.slice (some ⟨w10.heap.size, 0, none⟩) 1 1), .string (strOf us), .int .i64 0, .string ⟨#[]⟩]) (results_cell_row rfl _ _ w.heap.size 27 #[.int .i64 author, .int .i64 0, .string ⟨#[]⟩, .int .i64 time, .int .i64 kd, .int .i64 p, .int .i64 q, .int .i64 r, (.slice A n c), (.slice (some ⟨w10.heap.size, 0, none⟩) 1 1), .string (strOf us), .int .i64 0, .string ⟨#[]⟩] (0, 0) _ rfl (setRow_heap _ _ _ _ _ _ HM9.out.mid.res) Tryd.underlying27 rfl (by kernel_rfl)) rfl
            ⟨⟨author, 0, ⟨#[]⟩, time, kd, p, q, r, l, ps, strOf us, 0, ⟨#[]⟩⟩, A, n, c, (some ⟨w10.heap.size, 0, none⟩), 1, 1, rfl, h1, h2, h3, h4, by show l.length ≤ 2; have := HL.out; omega, HP1.out, HP2.out, by show (strOf us).size ≤ 5; rw [strOf_size]; omega, rfl, rfl, h5⟩
end Go.Proofs.YtnokhjpileamaaaDoor
/- A copy owns its rows; the state behind the making of a statement and its copy. -/
namespace Go.Proofs.YtnokhjpileamaaaDoor
open Go.RowKit
theorem own_keep {w w' : World} {B : Nat} {e : TypeId} {sz : Nat} {v : Value} {n : Nat} {xs : List Value} (h : w.ownsRow B e sz v n xs) (hk : ∀ g, v.ownBlock = some g → w'.heap[g]? = w.heap[g]?) : w'.ownsRow B e sz v n xs := by
  refine ⟨h.1, ?_⟩
  rcases h.2 with hn | ⟨g, cap, cur, rfl, hg, hgg, rest⟩
  · exact .inl hn
  · exact .inr ⟨g, cap, cur, rfl, hg, (hk g rfl).trans hgg, rest⟩
/-- Rows of different types lie in different blocks. -/
theorem own_apart {w : World} {B B' : Nat} {e e' : TypeId} {sz sz' : Nat} {v v' : Value} {n n' : Nat} {xs xs' : List Value} (h : w.ownsRow B e sz v n xs) (h' : w.ownsRow B' e' sz' v' n' xs') (hne : e ≠ e') : ∀ g, v'.ownBlock = some g → v.ownBlock ≠ some g := by
  intro g h1 h2
  rcases h.2 with ⟨hn, _⟩ | ⟨a, cap, cur, rfl, hg, hgg, rest⟩
  · subst hn; cases h2
  rcases h'.2 with ⟨hn, _⟩ | ⟨b, cap', cur', rfl, hg', hgg', rest'⟩
  · subst hn; cases h1
  have e1 : a = g := by injection h2
  have e2 : b = g := by injection h1
  subst e1; subst e2
  rw [hgg] at hgg'
  injection hgg' with h3
  injection h3 with h4 h5
  exact hne h5
theorem own_n {w : World} {B : Nat} {e : TypeId} {sz : Nat} {v : Value} {n q : Nat} {xs : List Value} (h : w.ownsRow B e sz v n xs) (hq : q = n) : w.ownsRow B e sz v q xs := by rw [hq]; exact h
def CopyO (w : World) (s : Stm) (e : Ending) (w' : World) : Prop := ∃ A n c B m k, e = .returned (stmV s A n c B m k) ∧ IOwn w' w.heap.size (.slice A n c) s.list ∧ POwn w' w.heap.size (.slice B m k) s.pins ∧ Below w.heap.size w w'
set_option maxRecDepth 100000 in
set_option maxHeartbeats 2000000 in
theorem copy_own (s : Stm) (A : Option Addr) (n c : Nat) (B : Option Addr) (m k : Nat) (w : World) (hl : IRow w A n c s.list) (hp : PRow w B m k s.pins) (hn : n ≤ 1000) (hm : m ≤ 1000) :
    Calls Tryd.prog 15 #[stmV s A n c B m k] w (CopyO w s) := by
  have HL := Lib.hid hl; have HP := Lib.hid hp; have HN := Lib.hid hl.len; have HM := Lib.hid hp.len
  clear hl hp
  obtain ⟨author, number, prev, time, kind, a, b, cc, list, pins, body, key, dig⟩ := s
  unfold stmV
  simp only at HL HP HN HM
  obtain ⟨G, hG⟩ : ∃ G, G = w.heap.size + 1 := ⟨_, rfl⟩
  have HGG := Lib.hid hG; clear hG
  have hb0 : Below w.heap.size w ((w.alloc (.cells #[.int .i64 author, .int .i64 number, .string prev, .int .i64 time, .int .i64 kind, .int .i64 a, .int .i64 b, .int .i64 cc, .slice A n c, .slice B m k, .string body, .int .i64 key, .string dig] 27)).alloc (.cells #[.int .i64 0, .int .i64 0, .string ⟨#[]⟩, .int .i64 0, .int .i64 0, .int .i64 0, .int .i64 0, .int .i64 0, .slice none 0 0, .slice none 0 0, .string ⟨#[]⟩, .int .i64 0, .string ⟨#[]⟩] 27)) := (one_new w _).alloc (by simp) _
  have hx0 : ((w.alloc (.cells #[.int .i64 author, .int .i64 number, .string prev, .int .i64 time, .int .i64 kind, .int .i64 a, .int .i64 b, .int .i64 cc, .slice A n c, .slice B m k, .string body, .int .i64 key, .string dig] 27)).alloc (.cells #[.int .i64 0, .int .i64 0, .string ⟨#[]⟩, .int .i64 0, .int .i64 0, .int .i64 0, .int .i64 0, .int .i64 0, .slice none 0 0, .slice none 0 0, .string ⟨#[]⟩, .int .i64 0, .string ⟨#[]⟩] 27)).heap[w.heap.size]? = _ := (Below.heap_alloc _ _ _ (by simp)).trans (heap_alloc_new w (.cells #[.int .i64 author, .int .i64 number, .string prev, .int .i64 time, .int .i64 kind, .int .i64 a, .int .i64 b, .int .i64 cc, .slice A n c, .slice B m k, .string body, .int .i64 key, .string dig] 27))
  have hy0 : ((w.alloc (.cells #[.int .i64 author, .int .i64 number, .string prev, .int .i64 time, .int .i64 kind, .int .i64 a, .int .i64 b, .int .i64 cc, .slice A n c, .slice B m k, .string body, .int .i64 key, .string dig] 27)).alloc (.cells #[.int .i64 0, .int .i64 0, .string ⟨#[]⟩, .int .i64 0, .int .i64 0, .int .i64 0, .int .i64 0, .int .i64 0, .slice none 0 0, .slice none 0 0, .string ⟨#[]⟩, .int .i64 0, .string ⟨#[]⟩] 27)).heap[(w.alloc (.cells #[.int .i64 author, .int .i64 number, .string prev, .int .i64 time, .int .i64 kind, .int .i64 a, .int .i64 b, .int .i64 cc, .slice A n c, .slice B m k, .string body, .int .i64 key, .string dig] 27)).heap.size]? = _ := heap_alloc_new (w.alloc (.cells #[.int .i64 author, .int .i64 number, .string prev, .int .i64 time, .int .i64 kind, .int .i64 a, .int .i64 b, .int .i64 cc, .slice A n c, .slice B m k, .string body, .int .i64 key, .string dig] 27)) (.cells #[.int .i64 0, .int .i64 0, .string ⟨#[]⟩, .int .i64 0, .int .i64 0, .int .i64 0, .int .i64 0, .int .i64 0, .slice none 0 0, .slice none 0 0, .string ⟨#[]⟩, .int .i64 0, .string ⟨#[]⟩] 27)
  rw [show (w.alloc (.cells #[.int .i64 author, .int .i64 number, .string prev, .int .i64 time, .int .i64 kind, .int .i64 a, .int .i64 b, .int .i64 cc, .slice A n c, .slice B m k, .string body, .int .i64 key, .string dig] 27)).heap.size = G by rw [HGG.out]; simp] at hy0
  have hz0 : ((w.alloc (.cells #[.int .i64 author, .int .i64 number, .string prev, .int .i64 time, .int .i64 kind, .int .i64 a, .int .i64 b, .int .i64 cc, .slice A n c, .slice B m k, .string body, .int .i64 key, .string dig] 27)).alloc (.cells #[.int .i64 0, .int .i64 0, .string ⟨#[]⟩, .int .i64 0, .int .i64 0, .int .i64 0, .int .i64 0, .int .i64 0, .slice none 0 0, .slice none 0 0, .string ⟨#[]⟩, .int .i64 0, .string ⟨#[]⟩] 27)).heap.size = G + 1 := by rw [HGG.out]; simp
  have HB1 := Lib.hid hb0; have HX1 := Lib.hid hx0; have HY1 := Lib.hid hy0; have HZ1 := Lib.hid hz0; clear hb0 hx0 hy0 hz0
  go_enter Tryd.func15, Tryd.ntmps15
  go_wp2_with (first
    | (at_builtin; refine wpList_app _ rfl (.const (.slice none 0 0)) (.tmp 4) 22 22 3 rfl (G + 1) Tryd.underlying22 i64_info rfl _ 0 [] (World.ownsRow_nil _ _ _ _) rfl (.slice A n c) n (intsV list) (Row.src (HL.out.later HB1.out) Tryd.underlying22 (intsV_one _)) rfl (by unfold maxLen; omega) (by omega) (by rw [HZ1.out]; exact Nat.le_refl _) ?_; intro v2 w2 ho2 hb2; rw [Nat.zero_add, List.nil_append] at ho2; obtain ⟨A2, c2, hv2, hr2⟩ := Row.of_own ho2; subst hv2; have HA2 : Hid (∀ ad, A2 = some ad → G + 1 ≤ ad.block) := Lib.hid (fun ad hA => by subst hA; exact (World.ownsRow.lt ho2 _ rfl).1); have HL2 : Hid (∀ ad, A2 = some ad → ad.block < w2.heap.size) := Lib.hid (fun ad hA => by subst hA; exact (World.ownsRow.lt ho2 _ rfl).2); have HR2 := Lib.hid ho2; have HB2 := Lib.hid (HB1.out.trans (hb2.mono (by rw [HGG.out]; omega))); have HX2 := Lib.hid ((hb2.block w.heap.size (by rw [HGG.out]; omega)).trans HX1.out); have HY2 := Lib.hid ((hb2.block G (by omega)).trans HY1.out); have HZ2 : Hid (G + 1 ≤ w2.heap.size) := Lib.hid (by have := hb2.size; rw [HZ1.out] at this; exact this); clear ho2 hb2 hr2; obtain ⟨hc0, hc1, hc2, hc3, hc4, hc5, hc6, hc7, hc8, hc9, hc10, hc11, hc12⟩ := stm_cells (s := ⟨author, number, prev, time, kind, a, b, cc, list, pins, body, key, dig⟩) HX2.out; have hz8 : w2.frozen? ⟨w.heap.size, 8, none⟩ = false := frozen_of_row _ _ _ _ _ HX2.out)
    | (at_builtin; refine wpList_appK (w2.setCell ⟨w.heap.size, 8, none⟩ (.slice A2 n c2)) rfl (.const (.slice none 0 0)) (.tmp 8) 23 23 44 rfl (G + 1) Tryd.underlying23 pin_info rfl _ 0 [] (World.ownsRow_nil _ _ _ _) rfl (.slice B m k) m (pinsC pins) (Row.src (HP.out.later (HB2.out.setCell (Nat.le_refl _) _)) Tryd.underlying23 (pinsC_one _)) rfl (by unfold maxLen; omega) (by omega) (by rw [World.size_setCell]; exact HZ2.out) ?_; intro v3 w3 ho3 hb3 hk3; rw [Nat.zero_add, List.nil_append] at ho3; obtain ⟨B3, k3, hv3, hr3⟩ := Row.of_own ho3; subst hv3; have HA3 : Hid (∀ ad, B3 = some ad → G + 1 ≤ ad.block) := Lib.hid (fun ad hA => by subst hA; exact (World.ownsRow.lt ho3 _ rfl).1); have HM3 : Hid (∀ ad, B3 = some ad → ad.block < w3.heap.size) := Lib.hid (fun ad hA => by subst hA; exact (World.ownsRow.lt ho3 _ rfl).2); have HL3 : Hid (∀ ad, A2 = some ad → ad.block < w3.heap.size) := Lib.hid (fun ad hA => Nat.lt_of_lt_of_le (HL2.out ad hA) (by have := hb3.size; rw [World.size_setCell] at this; exact this)); have HK3 : Hid (∀ k, k < w2.heap.size → w3.heap[k]? = (w2.setCell ⟨w.heap.size, 8, none⟩ (.slice A2 n c2)).heap[k]?) := Lib.hid (fun k hk => hk3 k (by rw [World.size_setCell]; exact hk) (by intro e; cases e)); clear hk3; have HR3 := Lib.hid ho3; have HB3 := Lib.hid ((HB2.out.setCell (p := ⟨w.heap.size, 8, none⟩) (Nat.le_refl _) (.slice A2 n c2)).trans (hb3.mono (by rw [HGG.out]; omega))); clear hc0 hc1 hc2 hc3 hc4 hc5 hc6 hc7 hc8 hc9 hc10 hc11 hc12 hz8; have HX3 := Lib.hid ((hb3.block w.heap.size (by rw [HGG.out]; omega)).trans (heap_setCell_same w2 w.heap.size 8 _ _ _ HX2.out)); have HY3 := Lib.hid ((hb3.block G (by omega)).trans ((Below.heap_setCell _ _ _ _ (by rw [HGG.out]; show w.heap.size + 1 ≠ w.heap.size; omega)).trans HY2.out)); have HYS : Hid ((w3.setCell ⟨w.heap.size, 9, none⟩ (.slice B3 m k3)).heap[w.heap.size + 1]? = some (.cells #[.int .i64 0, .int .i64 0, .string ⟨#[]⟩, .int .i64 0, .int .i64 0, .int .i64 0, .int .i64 0, .int .i64 0, .slice none 0 0, .slice none 0 0, .string ⟨#[]⟩, .int .i64 0, .string ⟨#[]⟩] 27 (0, 0))) := Lib.hid (by have h := HY3.out; rw [HGG.out] at h; exact (Below.heap_setCell _ _ _ _ (by show w.heap.size + 1 ≠ w.heap.size; omega)).trans h); have HBS := Lib.hid (HB3.out.setCell (p := ⟨w.heap.size, 9, none⟩) (Nat.le_refl _) (.slice B3 m k3)); clear ho3 hb3 hr3; obtain ⟨hc0, hc1, hc2, hc3, hc4, hc5, hc6, hc7, hc8, hc9, hc10, hc11, hc12⟩ := stm_cells (A := A2) (n := n) (c := c2) (s := ⟨author, number, prev, time, kind, a, b, cc, list, pins, body, key, dig⟩) HX3.out; have hz9 : w3.frozen? ⟨w.heap.size, 9, none⟩ = false := frozen_of_row _ _ _ _ _ HX3.out)
    | refine wpList_store_row rfl 27 (.tmp 2) (.tmp 11) rfl (w.heap.size + 1) #[.int .i64 author, .int .i64 number, .string prev, .int .i64 time, .int .i64 kind, .int .i64 a, .int .i64 b, .int .i64 cc, .slice A2 n c2, .slice B3 m k3, .string body, .int .i64 key, .string dig] rfl rfl 27 _ HYS.out (by kernel_rfl) rfl (by simp [Value.oneCell']) ?_)
  have hfin : ∀ k, G + 1 ≤ k → ((w3.setCell ⟨w.heap.size, 9, none⟩ (.slice B3 m k3)).setRow (w.heap.size + 1) #[.int .i64 author, .int .i64 number, .string prev, .int .i64 time, .int .i64 kind, .int .i64 a, .int .i64 b, .int .i64 cc, .slice A2 n c2, .slice B3 m k3, .string body, .int .i64 key, .string dig]).heap[k]? = w3.heap[k]? := fun k hk => by
    rw [setRow_other _ _ _ _ (by have := HGG.out; omega)]
    exact Below.heap_setCell _ _ _ _ (by have := HGG.out; show k ≠ w.heap.size; omega)
  have HLN := HN.out; have HMM := HM.out
  have hmm : m = pins.length := HMM.symm
  have ho2 : ((w3.setCell ⟨w.heap.size, 9, none⟩ (.slice B3 m k3)).setRow (w.heap.size + 1) #[.int .i64 author, .int .i64 number, .string prev, .int .i64 time, .int .i64 kind, .int .i64 a, .int .i64 b, .int .i64 cc, .slice A2 n c2, .slice B3 m k3, .string body, .int .i64 key, .string dig]).ownsRow w.heap.size 3 1 (.slice A2 n c2) n (intsV list) := own_keep (own_mono HR2.out (by have := HGG.out; omega)) fun g hg => by
    cases A2 with
    | none => cases hg
    | some ad =>
      have e1 : ad.block = g := by injection hg
      subst e1
      rw [hfin _ (HA2.out ad rfl), HK3.out _ (HL2.out ad rfl)]
      exact Below.heap_setCell _ _ _ _ (by have := HGG.out; have := HA2.out ad rfl; show ad.block ≠ w.heap.size; omega)
  have ho3 : ((w3.setCell ⟨w.heap.size, 9, none⟩ (.slice B3 m k3)).setRow (w.heap.size + 1) #[.int .i64 author, .int .i64 number, .string prev, .int .i64 time, .int .i64 kind, .int .i64 a, .int .i64 b, .int .i64 cc, .slice A2 n c2, .slice B3 m k3, .string body, .int .i64 key, .string dig]).ownsRow w.heap.size 44 3 (.slice B3 m k3) m (pinsC pins) := own_keep (own_mono HR3.out (by have := HGG.out; omega)) fun g hg => by
    cases B3 with
    | none => cases hg
    | some ad =>
      have e1 : ad.block = g := by injection hg
      subst e1
      exact hfin _ (HA3.out ad rfl)
  refine bodyPost_ret (v := .agg #[.int .i64 author, .int .i64 number, .string prev, .int .i64 time, .int .i64 kind, .int .i64 a, .int .i64 b, .int .i64 cc, .slice A2 n c2, .slice B3 m k3, .string body, .int .i64 key, .string dig]) (results_cell_row rfl _ _ (w.heap.size + 1) 27 #[.int .i64 author, .int .i64 number, .string prev, .int .i64 time, .int .i64 kind, .int .i64 a, .int .i64 b, .int .i64 cc, .slice A2 n c2, .slice B3 m k3, .string body, .int .i64 key, .string dig] (0, 0) _ rfl (setRow_heap _ _ _ _ _ _ HYS.out) Tryd.underlying27 rfl (by kernel_rfl)) rfl ⟨A2, n, c2, B3, m, k3, rfl, own_n ho2 HLN, own_n ho3 hmm.symm, below_setRow HBS.out (by omega) _⟩
/-- A statement and another one that is being changed, each in a block. -/
structure Sw (L D : Nat) (t : List Int) (w : World) (S8 S9 : Nat) (s : Stm) (A : Option Addr) (n c : Nat) (B : Option Addr) (m k : Nat) (cs : Array Value) (vl : Value) (l : List Int) (vp : Value) (ps : List PinD) (x : World) : Prop where
  bel : Below w.heap.size w x
  dice : ∃ k, DiceAt x L D t k
  sc : x.heap[S8]? = some (.cells #[.int .i64 s.author, .int .i64 s.number, .string s.prev, .int .i64 s.time, .int .i64 s.kind, .int .i64 s.a, .int .i64 s.b, .int .i64 s.c, .slice A n c, .slice B m k, .string s.body, .int .i64 s.key, .string s.dig] 27 (0, 0))
  il : IRow x A n c s.list
  pl : PRow x B m k s.pins
  ia : ∀ ad, A = some ad → ad.block < S8 ∧ ad.block ≠ D
  ib : ∀ ad, B = some ad → ad.block < S8 ∧ ad.block ≠ D
  cur : x.heap[S9]? = some (.cells cs 27 (0, 0))
  ol : IOwn x (S8 + 1) vl l
  op : POwn x (S8 + 1) vp ps
  lt : S9 < x.heap.size
  o1 : w.heap.size ≤ D
  o2 : D < S8
  o3 : S8 < S9
theorem own_block {w : World} {B : Nat} {e : TypeId} {sz : Nat} {v : Value} {n : Nat} {xs : List Value} (h : w.ownsRow B e sz v n xs) {g : Nat} {cs : Array Value} {T : TypeId} {fr : Nat × Nat} (hg : w.heap[g]? = some (.cells cs T fr)) (hne : e ≠ T) : ∀ i, v.ownBlock = some i → i ≠ g := by
  intro i h1 h2
  subst h2
  rcases h.2 with ⟨hn, _⟩ | ⟨a, cap, cur, rfl, ha, hgg, rest⟩
  · subst hn; cases h1
  have e1 : a = i := by injection h1
  subst e1
  rw [hg] at hgg
  injection hgg with h3
  injection h3 with h4 h5
  exact hne h5.symm
section
variable {L D : Nat} {t : List Int} {w : World} {S8 S9 : Nat} {s : Stm} {A : Option Addr} {n c : Nat} {B : Option Addr} {m k : Nat} {cs : Array Value} {vl : Value} {l : List Int} {vp : Value} {ps : List PinD} {x y : World}
theorem Sw.step (h : Sw L D t w S8 S9 s A n c B m k cs vl l vp ps x) (hd : ∃ k, DiceAt y L D t k) (hb : Below w.heap.size w y) (hs : x.heap.size ≤ y.heap.size) (hk : ∀ g, g < S8 + 1 → g ≠ D → y.heap[g]? = x.heap[g]?)
    {cs' : Array Value} (hc : y.heap[S9]? = some (.cells cs' 27 (0, 0))) {vl' : Value} {l' : List Int} {vp' : Value} {ps' : List PinD} (hl : IOwn y (S8 + 1) vl' l') (hp : POwn y (S8 + 1) vp' ps') :
    Sw L D t w S8 S9 s A n c B m k cs' vl' l' vp' ps' y :=
  ⟨hb, hd, (hk _ (Nat.lt_succ_self _) (Nat.ne_of_gt h.o2)).trans h.sc, Row.keep h.il fun ad e _ _ => hk _ (Nat.lt_succ_of_lt (h.ia ad e).1) (h.ia ad e).2, Row.keep h.pl fun ad e _ _ => hk _ (Nat.lt_succ_of_lt (h.ib ad e).1) (h.ib ad e).2, h.ia, h.ib, hc, hl, hp, Nat.lt_of_lt_of_le h.lt hs, h.o1, h.o2, h.o3⟩
theorem Sw.gave (h : Sw L D t w S8 S9 s A n c B m k cs vl l vp ps x) (g : Gave L D t x y) : Sw L D t w S8 S9 s A n c B m k cs vl l vp ps y := by
  have h1 := h.o1; have h2 := h.o2; have h3 := h.o3; have h4 := h.lt
  exact h.step g.1 (h.bel.trans (g.2.below h1 h.bel.size)) g.2.size (fun i hi hne => g.2.block i (by omega) hne) ((g.2.block _ h4 (by omega)).trans h.cur) (own_but h.ol g.2 (by omega)) (own_but h.op g.2 (by omega))
theorem Sw.later (h : Sw L D t w S8 S9 s A n c B m k cs vl l vp ps x) (hb : Below x.heap.size x y) : Sw L D t w S8 S9 s A n c B m k cs vl l vp ps y := by
  have h1 := h.o1; have h2 := h.o2; have h3 := h.o3; have h4 := h.lt
  obtain ⟨k, hk⟩ := h.dice
  exact h.step ⟨k, hk.later hb⟩ (h.bel.trans (hb.mono h.bel.size)) hb.size (fun i hi _ => hb.block i (by omega)) ((hb.block _ h4).trans h.cur) (own_keep h.ol fun g hg => hb.block _ (World.ownsRow.lt h.ol g hg).2) (own_keep h.op fun g hg => hb.block _ (World.ownsRow.lt h.op g hg).2)
theorem Sw.set (h : Sw L D t w S8 S9 s A n c B m k cs vl l vp ps x) (i : Nat) (v : Value) : Sw L D t w S8 S9 s A n c B m k (cs.setIfInBounds i v) vl l vp ps (x.setCell ⟨S9, i, none⟩ v) := by
  have h1 := h.o1; have h2 := h.o2; have h3 := h.o3; have h4 := h.lt
  have hb : Below S9 x (x.setCell ⟨S9, i, none⟩ v) := Below.setCell (p := ⟨S9, i, none⟩) (Below.refl _ _) (Nat.le_refl _) _
  obtain ⟨k, hk⟩ := h.dice
  exact h.step ⟨k, hk.below hb (by omega)⟩ (h.bel.trans (hb.mono (by omega))) hb.size (fun i hi _ => hb.block i (by omega)) (heap_setCell_same _ _ _ _ _ _ h.cur) (own_keep h.ol fun g hg => Below.heap_setCell _ _ _ _ (own_block h.ol h.cur (by decide) g hg)) (own_keep h.op fun g hg => Below.heap_setCell _ _ _ _ (own_block h.op h.cur (by decide) g hg))
/-- The list has been appended to. -/
theorem Sw.list (h : Sw L D t w S8 S9 s A n c B m k cs vl l vp ps x) (hb : Below (S8 + 1) x y) (hk : ∀ k, k < x.heap.size → vl.ownBlock ≠ some k → y.heap[k]? = x.heap[k]?) {vl' : Value} {l' : List Int} (hl : IOwn y (S8 + 1) vl' l') :
    Sw L D t w S8 S9 s A n c B m k cs vl' l' vp ps y := by
  have h1 := h.o1; have h2 := h.o2; have h3 := h.o3; have h4 := h.lt
  obtain ⟨k, hd⟩ := h.dice
  exact h.step ⟨k, hd.below hb (by omega)⟩ (h.bel.trans (hb.mono (by omega))) hb.size (fun i hi _ => hb.block i (by omega)) ((hk _ h4 fun e => own_block h.ol h.cur (by decide) _ e rfl).trans h.cur) hl (own_keep h.op fun g hg => hk g (World.ownsRow.lt h.op g hg).2 (own_apart h.ol h.op (by decide) g hg))
/-- The pins have been appended to. -/
theorem Sw.pins (h : Sw L D t w S8 S9 s A n c B m k cs vl l vp ps x) (hb : Below (S8 + 1) x y) (hk : ∀ k, k < x.heap.size → vp.ownBlock ≠ some k → y.heap[k]? = x.heap[k]?) {vp' : Value} {ps' : List PinD} (hp : POwn y (S8 + 1) vp' ps') :
    Sw L D t w S8 S9 s A n c B m k cs vl l vp' ps' y := by
  have h1 := h.o1; have h2 := h.o2; have h3 := h.o3; have h4 := h.lt
  obtain ⟨k, hd⟩ := h.dice
  exact h.step ⟨k, hd.below hb (by omega)⟩ (h.bel.trans (hb.mono (by omega))) hb.size (fun i hi _ => hb.block i (by omega)) ((hk _ h4 fun e => own_block h.op h.cur (by decide) _ e rfl).trans h.cur) (own_keep h.ol fun g hg => hk g (World.ownsRow.lt h.ol g hg).2 (own_apart h.op h.ol (by decide) g hg)) hp
end
end Go.Proofs.YtnokhjpileamaaaDoor
/- The bytes that the reference's Encode gives are its own. -/
namespace Go.Proofs.YtnokhjpileamaaaDoor
open Go.RowKit
def EncO (w : World) (s : Stm) (e : Ending) (w' : World) : Prop := ∃ A m c, e = .returned (.tuple #[.slice A m c, .int .i64 (encE s)]) ∧ BOwn w' w.heap.size (.slice A m c) (encB s) ∧ Below w.heap.size w w'
set_option maxHeartbeats 400000 in
theorem refText_own (A : Option Addr) (n c : Nat) (us : List UInt8) (s : ByteArray) (w : World) (hr : BRow w A n c us) (hm : n ≤ 3000000) (hs : s.size ≤ 3000000) :
    Calls Tryd.prog 36 #[.slice A n c, .string s] w fun e w' => ∃ v, e = .returned v ∧ BOwn w' w.heap.size v (us ++ textB s.data.toList) ∧ Below w.heap.size w w' := by
  have HR := Lib.hid hr; have HL := Lib.hid hr.len; clear hr
  go_enter Tryd.func36, Tryd.ntmps36
  go_wp2_with fail
  refine (refInt_own A n c us (s.size : Int) w HR.out hm).mono ?_
  rintro e w2 ⟨v2, rfl, ho2, hb2⟩
  have HO2 := Lib.hid ho2; have HB2 := Lib.hid hb2; clear ho2 hb2
  have hlen : (us ++ be8 (s.size : Int)).length = n + 8 := by rw [List.length_append, be8_len, HL.out]
  have HLEN := Lib.hid hlen; clear hlen
  go_wp2_with (at_builtin; go_must (refine wpList_app w2 rfl (.tmp 8) (.tmp 9) 28 9 5 rfl w.heap.size Tryd.underlying28 u8_info rfl v2 _ _ HO2.out rfl (.string s) s.size (byteCells s) (Src.ofString w2 Tryd.underlying9 s) rfl (by rw [HLEN.out]; unfold maxLen; omega) (by rw [HLEN.out]; omega) HB2.out.size ?_); intro v3 w3 ho3 hb3; have HO3 := Lib.hid ho3; have HB3 := Lib.hid (HB2.out.trans hb3); clear ho3 hb3)
  go_ret
  refine ⟨_, rfl, ?_, HB3.out⟩
  have h := HO3.out
  unfold BOwn textB
  rw [← List.append_assoc, bytesV_app, List.length_append, show (s.data.toList.length : Int) = (s.size : Int) from by simp]
  rw [show s.data.toList.length = s.size from by simp]
  exact h
set_option maxRecDepth 100000 in
set_option maxHeartbeats 800000 in
theorem refEncode_own (s : Stm) (A : Option Addr) (n c : Nat) (B : Option Addr) (m k : Nat) (w : World) (hl : IRow w A n c s.list) (hp : PRow w B m k s.pins) (hs : Small s) :
    Calls Tryd.prog 19 #[stmV s A n c B m k] w (EncO w s) := by
  have hn : n ≤ 1000 := by rw [← hl.len]; exact hs.list
  have hm : m ≤ 1000 := by rw [← hp.len]; exact hs.pins
  have H1 : Hid (∀ w', Below w.heap.size w w' → Calls Tryd.prog 28 #[stmV s A n c B m k] w' (SaysL (.int .i64 (checkV s)) w')) := Lib.hid fun w' h => refCheck_any s A n c B m k w' (hl.later h) (hp.later h) (by omega) (by omega) (by have := hs.body; omega)
  have H2 : Hid (∀ w', Below w.heap.size w w' → Calls Tryd.prog 32 #[stmV s A n c B m k] w' (SaysL (.bool (sealedB s)) w')) := Lib.hid fun w' h => refSealed_any s A n c B m k w' (hl.later h) (hp.later h) hs
  have H3 : Hid (∀ w', Below w.heap.size w w' → Calls Tryd.prog 30 #[stmV s A n c B m k] w' (GivesB w' (bodyB s))) := Lib.hid fun w' h => refBytes_any s A n c B m k w' (hl.later h) (hp.later h) hs
  have HE : Hid (encE s = if checkV s = 0 then (if sealedB s = true then 0 else 6) else checkV s) := Lib.hid rfl
  have HB : Hid (encB s = if checkV s = 0 then (if sealedB s = true then bodyB s ++ (listB [s.key] ++ textB s.dig.data.toList) else []) else []) := Lib.hid rfl
  have hdig := hs.dig; have hlen := body_len hs
  clear hl hp hs
  unfold EncO
  generalize encE s = E at HE ⊢
  generalize encB s = EB at HB ⊢
  generalize checkV s = cv at HE HB H1
  generalize sealedB s = sv at HE HB H2
  generalize bodyB s = R at HB H3 hlen
  obtain ⟨author, number, prev, time, kind, a, b, cc, list, pins, body, key, dig⟩ := s
  unfold stmV at *
  simp only at hdig HB
  go_enter Tryd.func19, Tryd.ntmps19
  go_wp2_with fail
  refine (H1.out _ (one_new _ _)).mono ?_
  rintro e w1 ⟨rfl, hb⟩
  have HB1 := Lib.hid ((one_new w _).trans (hb.mono (by simp))); have HX1 := Lib.hid ((hb.block w.heap.size (by simp)).trans (heap_alloc_new w (.cells #[.int .i64 author, .int .i64 number, .string prev, .int .i64 time, .int .i64 kind, .int .i64 a, .int .i64 b, .int .i64 cc, .slice A n c, .slice B m k, .string body, .int .i64 key, .string dig] 27))); have HZ1 : Hid (w.heap.size < w1.heap.size) := Lib.hid (by have := hb.size; simp at this; omega)
  clear hb
  by_cases h0 : cv = 0
  · subst h0
    obtain ⟨hc0, hc1, hc2, hc3, hc4, hc5, hc6, hc7, hc8, hc9, hc10, hc11, hc12⟩ := stm_cells (s := ⟨author, number, prev, time, kind, a, b, cc, list, pins, body, key, dig⟩) HX1.out
    go_wp2_with fail
    refine (H2.out _ HB1.out).mono ?_
    rintro e w2 ⟨rfl, hb⟩
    have HB2 := Lib.hid (HB1.out.trans (hb.mono HB1.out.size)); have HX2 := Lib.hid ((hb.block w.heap.size HZ1.out).trans HX1.out); have HZ2 : Hid (w.heap.size < w2.heap.size) := Lib.hid (Nat.lt_of_lt_of_le HZ1.out hb.size)
    clear hb hc0 hc1 hc2 hc3 hc4 hc5 hc6 hc7 hc8 hc9 hc10 hc11 hc12 HB1 HX1 HZ1
    cases g2 : sv
    · go_wp2
      go_ret2
      exact ⟨none, 0, 0, by rw [HE.out, g2]; rfl, by rw [HB.out, g2]; exact World.ownsRow_nil _ _ _ _, HB2.out⟩
    have HE2 : Hid (E = 0) := by unfold Hid; rw [HE.out, g2]; rfl
    have HEB : Hid (EB = R ++ be8 key ++ textB dig.data.toList) := by unfold Hid; rw [HB.out, g2]; simp [listB]
    clear HE HB
    go_wp2_with fail
    refine wp_region_grow (by kernel_rfl) Later Later.refl (fun _ _ _ => Later.trans) [10, 11] [([0, 2, 3, 4, 6, 7, 8], 1), ([], 5), ([], 9)] (by kernel_rfl) (by kernel_rfl) (by kernel_rfl) ?_
    simp only [List.map_cons, List.map_nil, pick, List.getD_cons_zero, List.getD_cons_succ]
    have HB3 := Lib.hid HB2.out.drew; have HX3 : Hid (w2.drew.heap[w.heap.size]? = _) := HX2; have HZ3 : Hid (w.heap.size < w2.drew.heap.size) := HZ2
    clear HB2 HX2 HZ2
    generalize w2.drew = w3 at HB3 HX3 HZ3 ⊢
    obtain ⟨hf0, hf1, hf2, hf3, hf4, hf5, hf6, hf7, hf8, hf9, hf10, hf11, hf12⟩ := stm_futs (F := Later) Later.refl (s := ⟨author, number, prev, time, kind, a, b, cc, list, pins, body, key, dig⟩) (W := w3) (fun w' h => h.block _ HZ3.out) HX3.out
    refine wpGrow_cons ?_
    repeat (go_big_quiet_step (fail))
    refine wpQuiet_nil ?_
    clear hf0 hf1 hf2 hf3 hf4 hf5 hf6 hf7 hf8 hf9 hf10 hf11 hf12
    go_wp2_with fail
    refine (H3.out w3 HB3.out).mono ?_
    rintro e w4 ⟨A4, m4, c4, rfl, hm4, hr, -, hb⟩
    have HR4 := Lib.hid hr; have HB4 := Lib.hid (HB3.out.trans (hb.mono HB3.out.size)); have HF : Hid (Later w3 w4) := Lib.hid hb
    clear hr hb HB3 HX3 HZ3
    have hm4' : m4 ≤ 2000000 := by rw [hm4]; exact hlen
    have HM4 : Hid (R.length = m4) := Lib.hid hm4.symm
    clear hm4
    go_wp2_with fail
    refine pieceEnd_normal ⟨HF.out, ?_⟩
    clear HF
    refine wpGrow_cons ?_
    refine wpQuiet_nil ?_
    go_wp2_with fail
    refine (refInt_any A4 m4 c4 R key w4 HR4.out (by omega)).mono ?_
    rintro e w5 ⟨A5, m5, c5, rfl, hm5, hr, -, hb⟩
    have HR5 := Lib.hid hr; have HB5 := Lib.hid (HB4.out.trans (hb.mono HB4.out.size)); have HF : Hid (Later w4 w5) := Lib.hid hb
    clear hr hb HB4 HR4
    have hm5' : m5 ≤ 2000008 := by rw [hm5, List.length_append, be8_len, HM4.out]; omega
    clear hm5
    go_wp2_with fail
    refine pieceEnd_normal ⟨HF.out, ?_⟩
    clear HF
    refine wpGrow_cons ?_
    refine wpQuiet_nil ?_
    go_wp2_with fail
    refine (refText_own A5 m5 c5 _ dig w5 HR5.out (by omega) (by omega)).mono ?_
    rintro e w6 ⟨v6, rfl, ho6, hb⟩
    obtain ⟨A6, m6, c6, rfl⟩ : ∃ A m c, v6 = .slice A m c := by obtain ⟨A6, c6, hv, -⟩ := Row.of_own ho6; exact ⟨_, _, _, hv⟩
    have HR6 : Hid (BOwn w6 w.heap.size _ _) := Lib.hid (own_mono ho6 HB5.out.size); have HB6 := Lib.hid (HB5.out.trans (hb.mono HB5.out.size)); have HF : Hid (Later w5 w6) := Lib.hid hb
    clear ho6 hb HB5 HR5
    go_wp2_with fail
    refine pieceEnd_normal ⟨HF.out, ?_⟩
    clear HF
    refine wpGrow_nil ?_
    repeat (go_big_quiet_step (fail))
    refine wpQuiet_nil ?_
    go_wp2
    go_ret2
    exact ⟨A6, m6, c6, by rw [HE2.out]; rfl, by rw [HEB.out]; exact HR6.out, HB6.out⟩
  · have g1 : (cv == 0) = false := by simpa using h0
    go_wp2
    go_ret2
    exact ⟨none, 0, 0, by rw [HE.out, if_neg h0]; rfl, by rw [HB.out, if_neg h0]; exact World.ownsRow_nil _ _ _ _, HB1.out⟩
theorem textS_len' (b : ByteArray) : (textB b.data.toList).length = 8 + b.size := textS_len b
theorem encB_len {s : Stm} (hl : s.list.length ≤ 2) (hp : (pinsBs s.pins).length ≤ 56) (hb : s.body.size ≤ 5) (hv : s.prev.size = 0) (hd : s.dig.size = 32) : (encB s).length ≤ 1000 := by
  unfold encB
  split
  · split
    · unfold wholeB bodyB
      simp only [List.length_append, listB_len, intsB_len, textS_len, List.length_cons, List.length_nil]
      omega
    · exact Nat.zero_le _
  · exact Nat.zero_le _
end Go.Proofs.YtnokhjpileamaaaDoor
/- append onto a slice of the call's own, which goes on reading as it did. -/
namespace Go.Proofs.YtnokhjpileamaaaDoor
open Go.RowKit Go
section
variable {P : Program}
/-- append of whatever source onto a slice of the call's own. -/
theorem run_app2 (w : World) (base : Nat) (t tx ty e : TypeId) (i : TypeInfo) (z : Value) (size bytes : Nat) (ht : P.underlying t = some (.slice e)) (hi : P.info? e = some i) (hz : i.zero = some z)
    (hsize : i.size = size) (hby : i.bytes = bytes) (hzs : z.cells.size = size)
    (v : Value) (n : Nat) (xs : List Value) (hown : w.ownsRow base e size v n xs) (x : Value) (m : Nat) (news : List Value) (hs : Src P size tx x m news w)
    (h63 : n + m ≤ maxLen) (hbytes : (n + m) * bytes ≤ 140737488355328) (hbase : base ≤ w.heap.size) :
    ∃ v' w', (Builtin.append_ #[t, tx] ty #[v, x]).run P w = .ok v' w' ∧ w'.ownsRow base e size v' (n + m) (xs ++ news) ∧ w.grownBy w' v.ownBlock ∧ (v'.ownBlock = v.ownBlock ∨ w.grownBy w' none) := by
  subst hsize
  subst hby
  have hsmall : n + m ≤ 9223372036854775807 := by simp only [maxLen] at h63; omega
  have hl := hs.newsLen
  have hlen : (xs ++ news).length = (n + m) * i.size := by rw [List.length_append, hown.1, hl, Nat.add_mul]
  have grown : ∀ (old : Nat), old < n + m → ∀ (row : Option Nat),
      (w.drew.alloc (.cells ((xs ++ news).toArray ++ Builtin.zeroCells z.cells (grownCap w (n + m) old e - (n + m))) e)).ownsRow base e i.size
        (.slice (some ⟨w.heap.size, 0, none⟩) (n + m) (grownCap w (n + m) old e)) (n + m) (xs ++ news) ∧
      w.grownBy (w.drew.alloc (.cells ((xs ++ news).toArray ++ Builtin.zeroCells z.cells (grownCap w (n + m) old e - (n + m))) e)) row := by
    intro old ho row
    have hge := grownCap_ge w (n + m) old e
    have hcm : grownCap w (n + m) old e ≤ maxLen := grownCap_le_maxLen w (n + m) old e h63
    refine ⟨⟨hlen, .inr ⟨w.heap.size, _, _, rfl, hbase, heap_alloc_new w.drew _, hge, hcm, ?_, ?_⟩⟩, ⟨rfl, rfl, rfl, by simp, fun k hk _ => Below.heap_alloc w.drew _ k hk⟩⟩
    · simp only [Array.size_append, List.size_toArray, size_zeroCells, hzs, hlen, ← Nat.add_mul]
      congr 1
      omega
    · simp only [Array.toList_append]
      rw [← hlen]
      exact List.take_left
  rcases hown.2 with ⟨rfl, rfl⟩ | ⟨g, cap, cur, rfl, hbg, hg, hnc, hcm, hcs, htake⟩
  · have hx : xs = [] := List.eq_nil_of_length_eq_zero (by simpa using hown.1)
    subst hx
    by_cases hm : m = 0
    · subst hm
      have hn : news = [] := List.eq_nil_of_length_eq_zero (by simpa using hl)
      subst hn
      refine ⟨.slice none 0 0, w, ?_, World.ownsRow_nil w base e i.size, ⟨rfl, rfl, rfl, Nat.le_refl _, fun _ _ _ => rfl⟩, .inl rfl⟩
      have hc := hs.cells
      rcases hs.kind with ⟨e', hk⟩ | hk <;>
        simp [Builtin.append_, run_underlying ht, run_underlying hk, sizeOf, typeInfo, hi, hs.len, hc]
    · have hr := run_append_grow_src (P := P) w t tx ty e i z ht hi hz none 0 0 [] (by simp [Builtin.firstCells]) x m news hs (by omega) (by omega) (growslice_fits (need := 0 + m) (old := 0) (bytes := i.bytes) (by omega) hbytes)
      have hgr := grown 0 (by omega) (Value.ownBlock (.slice none 0 0))
      have hgn := grown 0 (by omega) none
      simp only [Nat.zero_add, List.nil_append] at hgr hgn hr ⊢
      exact ⟨_, _, hr, hgr.1, hgr.2, .inr hgn.2⟩
  · by_cases hroom : n + m ≤ cap
    · have hfit : n * i.size + news.length ≤ cur.size := by rw [hl, hcs, ← Nat.add_mul]; exact Nat.mul_le_mul_right _ hroom
      have hst := run_storeCells_at P g (n * i.size) e news 0 cur w hg (by simpa using hfit) hs.one
      refine ⟨.slice (some ⟨g, 0, none⟩) (n + m) cap, w.setRow g (cur.toList.take (n * i.size) ++ news ++ cur.toList.drop (n * i.size + news.length)).toArray, ?_, ⟨hlen, .inr ⟨g, cap, _, rfl, hbg, setRow_heap w g cur _ e _ hg, hroom, hcm, ?_, ?_⟩⟩, ⟨rfl, rfl, rfl, by simp, fun k _ hk => setRow_other w g k _ (fun e => hk (by simp [Value.ownBlock, e]))⟩, .inl rfl⟩
      · simp only [Nat.add_zero] at hst
        rcases hs.kind with ⟨e', hk⟩ | hk <;> simp [Builtin.append_, run_underlying ht, run_underlying hk, sizeOf, typeInfo, hi, hs.len, hroom, hs.cells, Addr.add_lit, hst]
      · simp only [List.size_toArray, List.length_append, List.length_take, List.length_drop, Array.length_toList]
        omega
      · rw [htake, ← hlen]
        exact List.take_left
    · have holds : ∀ j u, xs[j]? = some u → w.cell? ((⟨g, 0, none⟩ : Addr).add j) = some u := hown.cells (g := g) rfl
      have hold := run_firstCells_some (P := P) w.drew i.size n ⟨g, 0, none⟩ n cap xs hown.1 (by simpa using holds)
      have hr := run_append_grow_src (P := P) w t tx ty e i z ht hi hz (some ⟨g, 0, none⟩) n cap xs hold x m news hs (by omega) (by omega) (growslice_fits (by omega) hbytes)
      have hgr := grown cap (by omega) (Value.ownBlock (.slice (some ⟨g, 0, none⟩) n cap))
      exact ⟨_, _, hr, hgr.1, hgr.2, .inr (grown cap (by omega) none).2⟩

theorem Row.recap {w : World} {b off n c c' sz : Nat} {cs : List Value} (h : Row w (some ⟨b, off, none⟩) n c sz cs) (hn : 0 < n) (hc : n ≤ c') : Row w (some ⟨b, off, none⟩) n c' sz cs := by
  obtain ⟨b', off', e, hf⟩ := h.form hn
  exact ⟨h.len, hc, fun e => (by cases e), fun ad hA _ => ⟨b', off', by rw [e] at hA; injection hA with hA; exact hA.symm, hf⟩⟩
/-- The slice that was appended to reads as it did. -/
theorem app_row {w w' : World} {base : Nat} {e : TypeId} {size : Nat} {v v' : Value} {n m : Nat} {xs news : List Value} (hown : w.ownsRow base e size v n xs) (h2 : w'.ownsRow base e size v' (n + m) (xs ++ news)) (h4 : v'.ownBlock = v.ownBlock ∨ w.grownBy w' none) :
    ∀ A c, v = .slice A n c → Row w' A n c size xs := by
  intro A c hv
  subst hv
  have keep : w'.ownsRow base e size (.slice A n c) n xs → Row w' A n c size xs := fun h => by
    obtain ⟨A', c', e1, h⟩ := Row.of_own h
    injection e1 with e2 e3 e4
    subst e2; subst e4; exact h
  rcases h4 with h4 | h4
  · rcases hown.2 with ⟨e1, h0⟩ | ⟨g, cap, cur, e1, hg, hgg, hnc, hcm, hcs, htake⟩
    · injection e1 with e2 e3 e4
      subst e2; subst h0; subst e4
      have : xs = [] := List.eq_nil_of_length_eq_zero (by simpa using hown.1)
      subst this
      exact Row.nilRow _ _
    · injection e1 with e2 e3 e4
      subst e2; subst e4
      obtain ⟨A', c', rfl, h⟩ := Row.of_own h2
      cases A' with
      | none => cases h4
      | some ad =>
        have e5 : ad.block = g := by injection h4
        rcases Nat.eq_zero_or_pos n with h0 | h0
        · subst h0
          have : xs = [] := List.eq_nil_of_length_eq_zero (by simpa using hown.1)
          subst this
          exact ⟨by simp, Nat.zero_le _, fun e => (by cases e), fun ad hA _ => by injection hA with hA; subst hA; exact ⟨g, 0, rfl, fun i hi => by omega⟩⟩
        · obtain ⟨g2, c2, e6⟩ : ∃ g2 c2, Value.slice (some ad) (n + m) c' = .slice (some ⟨g2, 0, none⟩) (n + m) c2 := by
            rcases h2.2 with ⟨_, h0'⟩ | ⟨g2, cap2, cur2, e7, _⟩
            · omega
            · exact ⟨g2, cap2, e7⟩
          injection e6 with e7 e8 e9
          injection e7 with e7
          subst e7
          have e5' : g2 = g := e5
          subst e5'
          have h5 := Row.take h n (by omega)
          rw [List.take_append_of_le_length (by rw [hown.1]; exact Nat.le_refl _), List.take_of_length_le (by rw [hown.1]; exact Nat.le_refl _)] at h5
          exact h5.recap h0 hnc
  · exact keep (own_keep hown fun g hg => h4.block g (World.ownsRow.lt hown g hg).2 (fun e => by cases e))
variable {ops : Array Oper} {rest : List Oper} {o : Oper} {a : Act} {Q : Exit → Act → World → Prop}
theorem wpList_appG2 (w : World) (hw : Region.wanted o (yielded ops a.tmps) = true) (s x : Operand) (t tx e : TypeId) (ho : o.op = .call { callee := .builtin .append, args := #[s, x], argTypes := #[t, tx] })
    (base : Nat) (ht : P.underlying t = some (.slice e)) {z : Value} {size bytes : Nat} (hi : (P.info? e).map (fun i => (i.zero, i.size, i.bytes)) = some (some z, size, bytes)) (hzs : z.cells.size = size)
    (v : Value) (n : Nat) (xs : List Value) (hown : w.ownsRow base e size v n xs) (hs : a.eval s = v) (X : Value) (m : Nat) (news : List Value) (hsrc : Src P size tx X m news w) (hx : a.eval x = X)
    (h63 : n + m ≤ maxLen) (hbytes : (n + m) * bytes ≤ 140737488355328) (hbase : base ≤ w.heap.size)
    (h : ∀ v' w', w'.ownsRow base e size v' (n + m) (xs ++ news) → Below base w w' → (∀ A c, v = .slice A n c → Row w' A n c size xs) → wpList P ops Q rest (a.put o.dst v') w') : wpList P ops Q (o :: rest) a w := by
  obtain ⟨i0, hi0, hz0, hz1, hz2⟩ := info_parts hi
  obtain ⟨v', w', hr, h2, h3, h4⟩ := run_app2 w base t tx o.type e i0 z size bytes ht hi0 hz0 hz1 hz2 hzs v n xs hown X m news hsrc h63 hbytes hbase
  refine wpList_want hw fun K hK => ?_
  unfold Oper.wp execOp
  simp only [ho, resolve, invoke, builtin, Sem.run_bind, Sem.run_pure, Result.andThen_ok, List.map_toArray, List.map_cons, List.map_nil, hs, hx, hr]
  exact hK _ _ (h v' w' h2 ((Below.refl base w).grown h3 hbase (fun k hk => (World.ownsRow.lt hown k hk).1)) (app_row hown h2 h4))
end
end Go.Proofs.YtnokhjpileamaaaDoor
/- The walk of trustflowlaw03.read. -/
namespace Go.Proofs.YtnokhjpileamaaaDoor
open Go.RowKit
set_option maxRecDepth 100000 in
set_option maxHeartbeats 4000000 in
theorem readLaw_any (A : Option Addr) (n c : Nat) (us : List UInt8) (w : World) (hr : BRow w A n c us) (hn : n ≤ 900000) (hR : Rounds w) :
    Calls Tryd.prog 10 #[.slice A n c] w (SaysL (.bool true) w) := by
  have hlen : us.length ≤ 900000 := by rw [hr.len]; exact hn
  have H1 : Hid (∀ w', Below w.heap.size w w' → Calls Tryd.prog 24 #[.slice A n c] w' (DecR w' (decS us) (decE us))) := Lib.hid fun w' h => decode_any A n c us w' (hr.later h) hn (hR.later h)
  have H2 : Hid (∀ w', Below w.heap.size w w' → Calls Tryd.prog 33 #[.slice A n c] w' (DecR w' (decS us) (decE us))) := Lib.hid fun w' h => refDecode_any A n c us w' (hr.later h) hn
  have H3 : Hid (∀ w' A1 n1 c1 B1 m1 k1 A2 n2 c2 B2 m2 k2, IRow w' A1 n1 c1 (decS us).list → PRow w' B1 m1 k1 (decS us).pins → IRow w' A2 n2 c2 (decS us).list → PRow w' B2 m2 k2 (decS us).pins → Calls Tryd.prog 22 #[stmV (decS us) A1 n1 c1 B1 m1 k1, stmV (decS us) A2 n2 c2 B2 m2 k2] w' (SaysL (.bool true) w')) :=
    Lib.hid fun w' A1 n1 c1 B1 m1 k1 A2 n2 c2 B2 m2 k2 h1 h2 h3 h4 => by
      have hs : (decS us).list.length ≤ 64 ∧ (decS us).pins.length ≤ 64 := by
        unfold decS readS
        by_cases ho : decOk us = true
        · rw [if_pos ho]
          have hk : readOk us = true := by unfold decOk at ho; simp only [Bool.and_eq_true] at ho; exact ho.1.1
          rw [if_pos hk]
          have h2 : (parse us).2.2 = true := by unfold readOk at hk; simp only [Bool.and_eq_true] at hk; exact hk.1
          exact (parse_small h2).2
        · rw [if_neg ho]; exact ⟨by decide, by decide⟩
      have := refSame_any (decS us) A1 n1 c1 B1 m1 k1 (decS us) A2 n2 c2 B2 m2 k2 w' h1 h2 h3 h4 (by rw [← h1.len]; omega) (by rw [← h2.len]; omega)
      rw [sameS_self] at this; exact this
  clear hr hn hR hlen
  generalize decS us = s at H1 H2 H3
  generalize decE us = E at H1 H2
  obtain ⟨author, number, prev, time, kind, a, b, cc, list, pins, body, key, dig⟩ := s
  go_enter Tryd.func10, Tryd.ntmps10
  go_wp2_with fail
  refine (H1.out _ (Below.refl _ _)).mono ?_
  rintro e w1 ⟨A1, n1, c1, B1, m1, k1, rfl, hl, hp, hb⟩
  unfold stmV at H3 ⊢
  simp only at hl hp H3
  have HL1 := Lib.hid (hl.later (one_new w1 (.cells #[.int .i64 author, .int .i64 number, .string prev, .int .i64 time, .int .i64 kind, .int .i64 a, .int .i64 b, .int .i64 cc, .slice A1 n1 c1, .slice B1 m1 k1, .string body, .int .i64 key, .string dig] 27))); have HP1 := Lib.hid (hp.later (one_new w1 (.cells #[.int .i64 author, .int .i64 number, .string prev, .int .i64 time, .int .i64 kind, .int .i64 a, .int .i64 b, .int .i64 cc, .slice A1 n1 c1, .slice B1 m1 k1, .string body, .int .i64 key, .string dig] 27))); have HB1 := Lib.hid (hb.trans ((one_new w1 (.cells #[.int .i64 author, .int .i64 number, .string prev, .int .i64 time, .int .i64 kind, .int .i64 a, .int .i64 b, .int .i64 cc, .slice A1 n1 c1, .slice B1 m1 k1, .string body, .int .i64 key, .string dig] 27)).mono hb.size))
  have HX1 := Lib.hid (heap_alloc_new w1 (.cells #[.int .i64 author, .int .i64 number, .string prev, .int .i64 time, .int .i64 kind, .int .i64 a, .int .i64 b, .int .i64 cc, .slice A1 n1 c1, .slice B1 m1 k1, .string body, .int .i64 key, .string dig] 27))
  have HZ1 : Hid (w1.heap.size < (w1.alloc (.cells #[.int .i64 author, .int .i64 number, .string prev, .int .i64 time, .int .i64 kind, .int .i64 a, .int .i64 b, .int .i64 cc, .slice A1 n1 c1, .slice B1 m1 k1, .string body, .int .i64 key, .string dig] 27)).heap.size) := Lib.hid (by simp)
  clear hl hp hb
  go_wp2_with fail
  refine (H2.out _ HB1.out).mono ?_
  generalize w1.alloc (.cells #[.int .i64 author, .int .i64 number, .string prev, .int .i64 time, .int .i64 kind, .int .i64 a, .int .i64 b, .int .i64 cc, .slice A1 n1 c1, .slice B1 m1 k1, .string body, .int .i64 key, .string dig] 27) = y1 at HL1 HP1 HB1 HX1 HZ1 ⊢
  obtain ⟨g1, hg1⟩ : ∃ g, g = w1.heap.size := ⟨_, rfl⟩
  rw [← hg1] at HX1 HZ1 ⊢
  clear hg1
  rintro e w2 ⟨A2, n2, c2, B2, m2, k2, rfl, hl, hp, hb⟩
  unfold stmV
  simp only at hl hp
  have hx1 := (hb.block g1 HZ1.out).trans HX1.out
  have hz1 : g1 < w2.heap.size := Nat.lt_of_lt_of_le HZ1.out hb.size
  have hn2 := one_new w2 (.cells #[.int .i64 author, .int .i64 number, .string prev, .int .i64 time, .int .i64 kind, .int .i64 a, .int .i64 b, .int .i64 cc, .slice A2 n2 c2, .slice B2 m2 k2, .string body, .int .i64 key, .string dig] 27)
  have HX2 := Lib.hid ((hn2.block g1 hz1).trans hx1)
  have HY2 := Lib.hid (heap_alloc_new w2 (.cells #[.int .i64 author, .int .i64 number, .string prev, .int .i64 time, .int .i64 kind, .int .i64 a, .int .i64 b, .int .i64 cc, .slice A2 n2 c2, .slice B2 m2 k2, .string body, .int .i64 key, .string dig] 27))
  have HL2 := Lib.hid (hl.later hn2); have HP2 := Lib.hid (hp.later hn2); have HB2 := Lib.hid ((HB1.out.trans (hb.mono HB1.out.size)).trans (hn2.mono (Nat.le_trans HB1.out.size hb.size)))
  have HL3 := Lib.hid (HL1.out.later (hb.trans (hn2.mono hb.size))); have HP3 := Lib.hid (HP1.out.later (hb.trans (hn2.mono hb.size)))
  clear hl hp hb hx1 hz1 hn2 HL1 HP1 HB1 HX1 HZ1
  obtain ⟨hc0, hc1, hc2, hc3, hc4, hc5, hc6, hc7, hc8, hc9, hc10, hc11, hc12⟩ := stm_cells (A := A1) (n := n1) (c := c1) (B := B1) (m := m1) (k := k1) (s := ⟨author, number, prev, time, kind, a, b, cc, list, pins, body, key, dig⟩) HX2.out
  obtain ⟨hd0, hd1, hd2, hd3, hd4, hd5, hd6, hd7, hd8, hd9, hd10, hd11, hd12⟩ := stm_cells (A := A2) (n := n2) (c := c2) (B := B2) (m := m2) (k := k2) (s := ⟨author, number, prev, time, kind, a, b, cc, list, pins, body, key, dig⟩) HY2.out
  go_wp2_with fail
  refine (H3.out _ _ _ _ _ _ _ _ _ _ _ _ _ HL3.out HP3.out HL2.out HP2.out).mono ?_
  rintro e w3 ⟨rfl, hb⟩
  have HB3 := Lib.hid (HB2.out.trans (hb.mono HB2.out.size)); clear hb
  go_wp2
  go_ret
  exact ⟨rfl, HB3.out⟩
end Go.Proofs.YtnokhjpileamaaaDoor
/- What a law's arguments are as rows of cells; what is asked of them behind the call. Plain facts over any program. -/
namespace Go.Proofs.YtnokhjpileamaaaDoor
open Go.ChangeShapes Go.WideShapes Go.ChangeAt Go.RowKit
section
variable {H : Type} {enc : TypeId × Value → H} {P : Program} {W W' : World}
/-- A slice of numbers of one kind that came in. -/
theorem open_nums {t e : TypeId} {k : IntKind} (ht : P.underlying t = some (.slice e)) (he : P.underlying e = some (.int k)) (hc : P.cellsOf e = 1) {base : Nat} {v : Value} {d : DataW H} {p : List MemPlace}
    (hval : Value.okWide P W .any base t v) (h : DataW.Trod enc P W 0 (fun _ => true) true t v d p) :
    ∃ (A : Option Addr) (n c : Nat) (zs : List Int), v = .slice A n c ∧ zs.length = n ∧ Row W A n c 1 (zs.map (Value.int k)) ∧ c ≤ maxLen ∧ ∀ z ∈ zs, (Lit.int k z).wf = true := by
  obtain ⟨a1, len, cap, rfl⟩ := okWide_slice ht hval
  obtain ⟨fuel, hf⟩ := h
  rcases open_ints ht he hc hf with ⟨hcs, hx⟩ | ⟨a, len', cap', zs, hcs, _, hl, hm, hz, hx, hcell, hwz⟩
  · simp [Value.cells] at hcs
    obtain ⟨rfl, rfl, rfl⟩ := hcs
    exact ⟨none, 0, 0, [], rfl, rfl, Row.nilRow _ _, Nat.zero_le _, fun _ h => by cases h⟩
  · simp [Value.cells] at hcs
    obtain ⟨rfl, rfl, rfl⟩ := hcs
    simp only [if_true] at hz
    refine ⟨some a, len, cap, zs.take len, rfl, by rw [List.length_take]; omega, ⟨by simp; omega, hl, fun e => (by cases e), fun ad e h0 => ?_⟩, hm, fun z hz' => hwz z (List.mem_of_mem_take hz')⟩
    injection e with e; subst e
    obtain ⟨ab, ao, spot⟩ := a
    have hspot : spot = none := by simpa [Addr.add] using World.cell?_spot (hcell 0 (by omega))
    subst hspot
    refine ⟨ab, ao, rfl, fun i hi => ?_⟩
    rw [Nat.mul_one] at hi
    have := hcell i (by omega)
    rw [Addr.add_lit] at this
    rw [this, List.getElem?_map, List.getElem?_take, if_pos hi, List.getElem?_eq_getElem (by omega)]
    simp [show i < zs.length by omega]
theorem bytes_of {zs : List Int} (h : ∀ z ∈ zs, (Lit.int .u8 z).wf = true) : zs.map (Value.int .u8) = bytesV (zs.map fun z => UInt8.ofNat z.toNat) := by
  unfold bytesV
  rw [List.map_map]
  apply List.map_congr_left
  intro z hz
  have := bounds_u8 (h z hz)
  simp only [Function.comp_apply, bv, w8, UInt8.toNat_ofNat']
  congr 1
  omega
/-- A slice of bytes, of ints, that came in. -/
theorem open_u8s {t e : TypeId} (ht : P.underlying t = some (.slice e)) (he : P.underlying e = some (.int .u8)) (hc : P.cellsOf e = 1) {base : Nat} {v : Value} {d : DataW H} {p : List MemPlace}
    (hval : Value.okWide P W .any base t v) (h : DataW.Trod enc P W 0 (fun _ => true) true t v d p) : ∃ (A : Option Addr) (n c : Nat) (us : List UInt8), v = .slice A n c ∧ Row W A n c 1 (bytesV us) ∧ c ≤ maxLen := by
  obtain ⟨A, n, c, zs, rfl, _, hr, hm, hw⟩ := open_nums ht he hc hval h
  rw [bytes_of hw] at hr
  exact ⟨A, n, c, _, rfl, hr, hm⟩
theorem open_i64s {t e : TypeId} (ht : P.underlying t = some (.slice e)) (he : P.underlying e = some (.int .i64)) (hc : P.cellsOf e = 1) {base : Nat} {v : Value} {d : DataW H} {p : List MemPlace}
    (hval : Value.okWide P W .any base t v) (h : DataW.Trod enc P W 0 (fun _ => true) true t v d p) : ∃ (A : Option Addr) (n c : Nat) (l : List Int), v = .slice A n c ∧ Row W A n c 1 (intsV l) ∧ c ≤ maxLen ∧ ∀ z ∈ l, -9223372036854775808 ≤ z ∧ z ≤ 9223372036854775807 := by
  obtain ⟨A, n, c, zs, rfl, _, hr, hm, hw⟩ := open_nums ht he hc hval h
  exact ⟨A, n, c, zs, rfl, hr, hm, fun z hz => bounds_i64 (hw z hz)⟩
theorem trodAll_below (hl : laidOutB P = true) (hb : Below W.heap.size W W') : ∀ {ts : List TypeId} {vs : List Value} {ds : List (DataW H)} {ps : List MemPlace}, (ts.all fun t => P.readableRec t && decide (t < P.types.size)) = true →
    DataW.TrodAll enc P W 0 (fun _ => true) true ts vs ds ps → DataW.TrodAll enc P W' 0 (fun b => decide (b < W.heap.size)) true ts vs ds ps
  | [], [], [], _, _, h => h
  | t :: ts, v :: vs, d :: ds, ps, hB, h => by
    have hlt := DataW.TrodAll.lt h
    obtain ⟨a, b, h1, h2, e⟩ := h
    simp only [List.all_cons, Bool.and_eq_true, decide_eq_true_eq] at hB
    subst e
    exact ⟨a, b, Below.trod hl hB.1.1 hB.1.2 h1 hb (fun x hx => hlt x (List.mem_append_left _ hx)), trodAll_below hl hb (by simpa using hB.2) h2, rfl⟩
/-- Behind a law that answered true and left below the old heap all as it was. -/
theorem law_post {f : Func} {s : ChangeSpec} {tb : TypeId} (hl : laidOutB P = true) (hres : f.resultTypes = #[tb]) (htb : P.underlying tb = some .bool) (hts : (f.params.toList.all fun t => P.readableRec t && decide (t < P.types.size)) = true) (hv : s.vars = [])
    {args : Array Value} {ds gs : List (DataW H)} {before : List MemPlace} (hW : DataW.Whole enc P f.params.toList s.vars false W args.toList ds gs before) (hfn : s.fn H (ds ++ gs) = { results := [.lit (.bool true)], args := ds }) (hb : Below W.heap.size W W') :
    ∃ v, Ending.returned (.bool true) = Ending.returned v ∧ s.post enc P f false true false false W args v W' := by
  have hW' := hW
  obtain ⟨p, q, hA, hV, rfl, _, _⟩ := hW
  refine ⟨_, rfl, ds, gs, _, [], p, [], hW', ?_, ?_, ?_, hb.frame _, fun h => by cases h⟩
  · rw [hfn, hres]; exact trodAll_mk1 (shut_bool htb _)
  · rw [hfn]; exact trodAll_below hl hb hts hA
  · rw [hfn, hv]; exact rfl
end
end Go.Proofs.YtnokhjpileamaaaDoor
