/- The walk of the law WireApart. -/
import Derived.Test.YtmccnfdadipgiaaCodec
import Derived.Test.YtmccnfdadipgiaaDiceMore
namespace Go.Proofs.Ytmccnfdadipgiaa
open Go.RowKit
/-- What a number, a string and a list are written as, one after the other. -/
def tripleB (v : Int) (s : List UInt8) (l : List Int) : List UInt8 := be8 v ++ (textB s ++ intsB l)
theorem tripleB_inj {v w : Int} {s r : List UInt8} {l k : List Int} (hv : inI64 v) (hw : inI64 w) (hs : s.length ≤ 1000000) (hr : r.length ≤ 1000000) (hl : l.length ≤ 1000000) (hk : k.length ≤ 1000000) (hzl : ∀ z ∈ l, inI64 z) (hzk : ∀ z ∈ k, inI64 z)
    (h : tripleB v s l = tripleB w r k) : v = w ∧ s = r ∧ l = k := by
  unfold tripleB at h
  have h1 : v = w := by have := congrArg cnt h; rwa [cnt_be8 _ _ hv, cnt_be8 _ _ hw] at this
  have h2 : textB s ++ intsB l = textB r ++ intsB k := by have := congrArg (List.drop 8) h; rwa [drop8, drop8] at this
  have h3 : s.length = r.length := by have := congrArg cnt h2; rw [textB_cnt _ _ hs, textB_cnt _ _ hr] at this; omega
  have h4 : s = r := by have := congrArg (fun x => (x.drop 8).take s.length) h2; rw [textB_text, h3, textB_text] at this; exact this
  have h5 : intsB l = intsB k := by have := congrArg (List.drop (8 + s.length)) h2; rw [textB_rest, h3, textB_rest] at this; exact this
  have h6 : l.length = k.length := by have := congrArg (fun x => cnt (x ++ [])) h5; rw [intsB_cnt _ _ hl, intsB_cnt _ _ hk] at this; omega
  refine ⟨h1, h4, ?_⟩
  have := congrArg (fun x => intsAt (x ++ []) l.length) h5
  rw [intsB_list l [] hzl, h6, intsB_list k [] hzk] at this
  exact this
theorem toL_ne {a b : ByteArray} (h : a ≠ b) : (a.toList == b.toList) = false := by
  rw [ByteArray.toList_eq, ByteArray.toList_eq]
  simp only [beq_eq_false_iff_ne, ne_eq]
  exact fun e => h (congrArg strOf e)
/-- Bytes read as a string wherever no more has turned than block D. -/
theorem conv_futD {D : Nat} {w : World} {A : Option Addr} {m c : Nat} {us : List UInt8} (h : BRow w A m c us) (hs : ∀ ad, A = some ad → 0 < m → ad.block ≠ D) {t : ByteArray} (ht : t = strOf us) (x : World) :
    (convert 22 9 (.slice A m c)).run Try.prog (fut (But D) w x) = .ok (.string t) (fut (But D) w x) := by
  subst ht
  exact run_conv_row (Row.but h (fut_ok (But.refl D) _ x) hs) Try.underlying22 Try.underlying5 Try.underlying9
theorem But.drewS {D : Nat} {w w' : World} (h : But D w w') : But D w w'.drew := h.trans (But.of (Below.refl _ _).drew)
/-- Numbers below five, bytes and small lists that dice give. -/
structure Drawn (t : List Int) (v : Int) (s : List UInt8) (l : List Int) : Prop where
  num : inI64 v
  txt : s.length ≤ 5
  few : l.length ≤ 4
  each : ∀ z ∈ l, inI64 z
theorem drawn_of (t : List Int) : Drawn t (diceV t 0 5) (diceBytes t (diceK t 0) 4).1 (diceSs t 4 (diceBytes t (diceK t 0) 4).2).1 := by
  refine ⟨?_, ?_, diceSs_len _ _ _, fun z hz => ?_⟩
  · have := diceV_bd t 0 5 (by omega); exact ⟨by omega, by omega⟩
  · unfold diceBytes; rw [diceBs_len]; have := diceV_bd t (diceK t 0) (4 + 1) (by omega); omega
  · have := diceSs_in _ _ _ z hz; exact ⟨by omega, by omega⟩
theorem BOwn.rowD {w : World} {B : Nat} {v : Value} {us : List UInt8} (h : BOwn w B v us) : ∃ A c, v = .slice A us.length c ∧ BRow w A us.length c us ∧ ∀ ad, A = some ad → B ≤ ad.block := by
  obtain ⟨A, c, rfl, hr⟩ := h.row
  exact ⟨A, c, rfl, hr, fun ad hA => (World.ownsRow.lt h ad.block (by rw [hA]; rfl)).1⟩
theorem IOwn.rowD {w : World} {B : Nat} {v : Value} {l : List Int} (h : IOwn w B v l) : ∃ A c, v = .slice A l.length c ∧ IRow w A l.length c l ∧ ∀ ad, A = some ad → B ≤ ad.block := by
  obtain ⟨A, c, rfl, hr⟩ := h.row
  exact ⟨A, c, rfl, hr, fun ad hA => (World.ownsRow.lt h ad.block (by rw [hA]; rfl)).1⟩
set_option maxRecDepth 100000 in
set_option maxHeartbeats 4000000 in
theorem apart_small (A : Option Addr) (n c : Nat) (t : List Int) (B : Option Addr) (m k : Nat) (u : List Int) (w : World) (ht : IRow w A n c t) (hu : IRow w B m k u) (hn : n ≤ 400) (hm : m ≤ 400) :
    Calls Try.prog 6 #[.slice A n c, .slice B m k] w fun e w' => e = .returned (.bool true) ∧ Below w.heap.size w w' := by
  have HT := Lib.hid ht; have HU := Lib.hid hu; clear ht hu
  have gn : decide (n ≤ 400) = true := decide_eq_true hn
  have gm : decide (m ≤ 400) = true := decide_eq_true hm
  obtain ⟨L, hL⟩ : ∃ L, L = w.heap.size := ⟨_, rfl⟩
  have HL := Lib.hid hL; clear hL
  go_enter Try.func6, Try.ntmps6
  go_wp2_with fail
  refine (light_any A n c w).mono ?_
  rintro e w' ⟨rfl, rfl⟩
  go_wp2_with fail
  refine (light_any B m k w).mono ?_
  rintro e w' ⟨rfl, rfl⟩
  clear gn gm
  go_wp2_with fail
  refine (roll_any L A n c t w HT.out (by omega) (by rw [HL.out]; exact Nat.le_refl _) (by rw [HL.out]; exact Row.lt HT.out (by omega))).mono ?_
  rintro e w1 ⟨rfl, hd1, hb1⟩
  have HD1 := Lib.hid hd1; have HB1 := Lib.hid hb1; have hlt1 := hd1.lt; clear hd1 hb1
  obtain ⟨D1, hD1⟩ : ∃ D1, D1 = w.heap.size := ⟨_, rfl⟩
  rw [← hD1] at HD1 hlt1 ⊢
  have HE1 := Lib.hid hD1; clear hD1
  go_wp2_with fail
  refine (roll_any L B m k u w1 (Row.later HU.out HB1.out) (by omega) (by have := HD1.out.low; omega) (by rw [HL.out]; exact Row.lt HU.out (by omega))).mono ?_
  rintro e w2 ⟨rfl, hd2, hb2⟩
  have hne : D1 < w1.heap.size := hlt1
  have HB2 := Lib.hid (HB1.out.trans (hb2.mono HB1.out.size)); have HD12 := Lib.hid (HD1.out.later hb2)
  have HD2 := Lib.hid hd2
  obtain ⟨D2, hD2⟩ : ∃ D2, D2 = w1.heap.size := ⟨_, rfl⟩
  rw [← hD2] at HD2 hne ⊢
  clear hd2 hb2 hD2 hlt1
  go_wp2_with fail
  have hdl1 := HD12.out.lt
  refine wp_region_grow (by kernel_rfl) (But D1) (But.refl D1) (fun _ _ _ => But.trans) [7, 8, 9] [([0, 2, 5], 1), ([], 3), ([4], 6)] (by kernel_rfl) (by kernel_rfl) (by kernel_rfl) ?_
  simp only [List.map_cons, List.map_nil, pick, List.getD_cons_zero, List.getD_cons_succ]
  have HX1 := Lib.hid (HD12.out.later (Later.drew w2)); have HF1 := Lib.hid (But.drewS (But.refl D1 w2)); have hsz1 : w2.heap.size ≤ w2.drew.heap.size := Nat.le_refl _
  generalize w2.drew = a1 at HX1 HF1 hsz1 ⊢
  refine wpGrow_cons ?_
  repeat (go_big_quiet_step (fail))
  refine wpQuiet_nil ?_
  go_wp2_with fail
  refine (next_any L D1 t 0 5 a1 HX1.out (by omega) (by omega)).mono ?_
  rintro e b1 ⟨rfl, hd, hb⟩
  have HXb1 := Lib.hid hd; have HFb1 := Lib.hid (HF1.out.trans hb); have HG := Lib.hid hb; clear hd hb
  go_wp2_with fail
  refine pieceEnd_normal ⟨HG.out, ?_⟩
  clear HG
  refine wpGrow_cons ?_
  refine wpQuiet_nil ?_
  go_wp2_with fail
  refine (bytes_any L D1 t (diceK t 0) 4 b1 HXb1.out (by omega) (by omega)).mono ?_
  rintro e c1 ⟨v, rfl, ho, hd, hb⟩
  obtain ⟨Ab1, cb1, rfl, hr, hA⟩ := ho.rowD
  have HXc1 := Lib.hid hd; have HFc1 := Lib.hid (HFb1.out.trans hb); have HG := Lib.hid hb
  obtain ⟨s1, hs1⟩ : ∃ s, s = strOf (diceBytes t (diceK t 0) 4).1 := ⟨_, rfl⟩
  have HS1 := Lib.hid hs1
  have hcv := fun x => conv_futD (D := D1) hr (fun ad hA' _ => by have h1 := hA ad hA'; have h2 := HXb1.out.lt; omega) hs1 x
  clear hd hb hs1 ho hr hA
  go_wp2_with fail
  refine pieceEnd_normal ⟨HG.out, ?_⟩
  clear HG
  refine wpGrow_cons ?_
  repeat (go_big_quiet_step (fail))
  refine wpQuiet_nil ?_
  clear hcv
  go_wp2_with fail
  refine (some_any L D1 t (diceBytes t (diceK t 0) 4).2 4 c1 HXc1.out (by omega)).mono ?_
  rintro e d1 ⟨v, rfl, ho, hd, hb⟩
  obtain ⟨Al1, cl1, rfl, hr, hA⟩ := ho.rowD
  have HR1 := Lib.hid hr; have HA1 := Lib.hid hA; have HFd1 := Lib.hid (HFc1.out.trans hb); have HG := Lib.hid hb; clear ho hr hA hd hb
  go_wp2_with fail
  refine pieceEnd_normal ⟨HG.out, ?_⟩
  clear HG
  refine wpGrow_nil ?_
  repeat (go_big_quiet_step (fail))
  refine wpQuiet_nil ?_
  have HDR1 := Lib.hid (drawn_of t)
  generalize diceV t 0 5 = x1 at HDR1 ⊢
  generalize (diceSs t 4 (diceBytes t (diceK t 0) 4).2).1 = l1 at HDR1 HR1 ⊢
  generalize (diceBytes t (diceK t 0) 4).1 = u1 at HDR1 HS1 ⊢
  have HD5 := Lib.hid (HD2.out.but HFd1.out (by omega) HD12.out.low)
  have HA5 : Hid (∀ ad, Al1 = some ad → D2 < ad.block) := fun ad hA => by
    have h1 := HA1.out ad hA; have h2 := HFc1.out.size; have h3 := HD2.out.lt; omega
  have HB5 := Lib.hid (HB2.out.trans (HFd1.out.below (B := w.heap.size) (by have := HE1.out; omega) HB2.out.size))
  go_wp2_with fail
  have hdl2 := HD5.out.lt
  refine wp_region_grow (by kernel_rfl) (But D2) (But.refl D2) (fun _ _ _ => But.trans) [7, 8, 9] [([0, 2, 5], 1), ([], 3), ([4], 6)] (by kernel_rfl) (by kernel_rfl) (by kernel_rfl) ?_
  simp only [List.map_cons, List.map_nil, pick, List.getD_cons_zero, List.getD_cons_succ]
  have HX2 := Lib.hid (HD5.out.later (Later.drew d1)); have HF2 := Lib.hid (But.drewS (But.refl D2 d1)); have hsz2 : d1.heap.size ≤ d1.drew.heap.size := Nat.le_refl _
  generalize d1.drew = a2 at HX2 HF2 hsz2 ⊢
  refine wpGrow_cons ?_
  repeat (go_big_quiet_step (fail))
  refine wpQuiet_nil ?_
  go_wp2_with fail
  refine (next_any L D2 u 0 5 a2 HX2.out (by omega) (by omega)).mono ?_
  rintro e b2 ⟨rfl, hd, hb⟩
  have HXb2 := Lib.hid hd; have HFb2 := Lib.hid (HF2.out.trans hb); have HG := Lib.hid hb; clear hd hb
  go_wp2_with fail
  refine pieceEnd_normal ⟨HG.out, ?_⟩
  clear HG
  refine wpGrow_cons ?_
  refine wpQuiet_nil ?_
  go_wp2_with fail
  refine (bytes_any L D2 u (diceK u 0) 4 b2 HXb2.out (by omega) (by omega)).mono ?_
  rintro e c2 ⟨v, rfl, ho, hd, hb⟩
  obtain ⟨Ab2, cb2, rfl, hr, hA⟩ := ho.rowD
  have HXc2 := Lib.hid hd; have HFc2 := Lib.hid (HFb2.out.trans hb); have HG := Lib.hid hb
  obtain ⟨s2, hs2⟩ : ∃ s, s = strOf (diceBytes u (diceK u 0) 4).1 := ⟨_, rfl⟩
  have HS2 := Lib.hid hs2
  have hcv := fun x => conv_futD (D := D2) hr (fun ad hA' _ => by have h1 := hA ad hA'; have h2 := HXb2.out.lt; omega) hs2 x
  clear hd hb hs2 ho hr hA
  go_wp2_with fail
  refine pieceEnd_normal ⟨HG.out, ?_⟩
  clear HG
  refine wpGrow_cons ?_
  repeat (go_big_quiet_step (fail))
  refine wpQuiet_nil ?_
  clear hcv
  go_wp2_with fail
  refine (some_any L D2 u (diceBytes u (diceK u 0) 4).2 4 c2 HXc2.out (by omega)).mono ?_
  rintro e d2 ⟨v, rfl, ho, hd, hb⟩
  obtain ⟨Al2, cl2, rfl, hr, hA⟩ := ho.rowD
  have HR2 := Lib.hid hr; have HA2 := Lib.hid hA; have HFd2 := Lib.hid (HFc2.out.trans hb); have HG := Lib.hid hb; clear ho hr hA hd hb
  go_wp2_with fail
  refine pieceEnd_normal ⟨HG.out, ?_⟩
  clear HG
  refine wpGrow_nil ?_
  repeat (go_big_quiet_step (fail))
  refine wpQuiet_nil ?_
  have HDR2 := Lib.hid (drawn_of u)
  generalize diceV u 0 5 = x2 at HDR2 ⊢
  generalize (diceSs u 4 (diceBytes u (diceK u 0) 4).2).1 = l2 at HDR2 HR2 ⊢
  generalize (diceBytes u (diceK u 0) 4).1 = u2 at HDR2 HS2 ⊢
  have HI1 := Lib.hid (Row.but HR1.out HFd2.out (fun ad hA _ => Nat.ne_of_gt (HA5.out ad hA)))
  have HI2 := HR2
  have HB8 := Lib.hid (HB5.out.trans (HFd2.out.below (B := w.heap.size) (by have := HE1.out; omega) HB5.out.size))
  clear HD1 HD12 HD2 HD5 HX1 HX2 HXb1 HXb2 HXc1 HXc2 HF1 HF2 HFb1 HFb2 HFc1 HFc2 HFd1 HFd2 HA1 HA2 HA5 HB1 HB2 HB5 HT HU HL HE1 hdl1 hdl2 hsz1 hsz2 hne hn hm
  go_wp2_with fail
  refine (wireInt_any none 0 0 [] x1 d2 (Row.nilRow _ 1) (by omega)).mono ?_
  rintro e e10 ⟨A10, m10, c10, rfl, hm, hr, -, hb⟩
  rw [List.nil_append] at hr hm
  rw [be8_len] at hm
  have h9 : m10 ≤ 900000 := by omega
  have HR10w := Lib.hid hr; have HB10w := Lib.hid (HB8.out.trans (hb.mono HB8.out.size)); have HG10 := Lib.hid hb; clear hr hb hm
  go_wp2_with fail
  refine (wireText_any A10 m10 c10 _ s1 e10 HR10w.out h9 (by rw [HS1.out, strOf_size]; have := HDR1.out.txt; omega)).mono ?_
  rw [show s1.data.toList = u1 from by rw [HS1.out]; rfl]
  rintro e e11 ⟨A11, m11, c11, rfl, hm, hr, -, hb⟩
  rw [List.length_append, be8_len, textB_len] at hm
  have h8 : m11 ≤ 900000 := by have := HDR1.out.txt; omega
  have HR11w := Lib.hid hr; have HB11w := Lib.hid (HB10w.out.trans (hb.mono HB10w.out.size)); have HG11 := Lib.hid (Later.trans HG10.out hb); clear hr hb hm h9
  go_wp2_with fail
  refine (wireInts_any A11 m11 c11 _ Al1 l1.length cl1 l1 e11 HR11w.out (HI1.out.later HG11.out) h8 (by have := HDR1.out.few; omega)).mono ?_
  rw [show be8 x1 ++ textB u1 ++ intsB l1 = tripleB x1 u1 l1 from List.append_assoc _ _ _]
  rintro e e12 ⟨A12, m12, c12, rfl, -, hr, -, hb⟩
  have HR12w := Lib.hid hr; have HB12w := Lib.hid (HB11w.out.trans (hb.mono HB11w.out.size)); have HG12 := Lib.hid (Later.trans HG11.out hb); clear hr hb h8
  go_wp2_with fail
  refine (wireInt_any none 0 0 [] x2 e12 (Row.nilRow _ 1) (by omega)).mono ?_
  rintro e e13 ⟨A13, m13, c13, rfl, hm, hr, -, hb⟩
  rw [List.nil_append] at hr hm
  rw [be8_len] at hm
  have h9 : m13 ≤ 900000 := by omega
  have HR13w := Lib.hid hr; have HB13w := Lib.hid (HB12w.out.trans (hb.mono HB12w.out.size)); have HG13 := Lib.hid hb; clear hr hb hm
  go_wp2_with fail
  refine (wireText_any A13 m13 c13 _ s2 e13 HR13w.out h9 (by rw [HS2.out, strOf_size]; have := HDR2.out.txt; omega)).mono ?_
  rw [show s2.data.toList = u2 from by rw [HS2.out]; rfl]
  rintro e e14 ⟨A14, m14, c14, rfl, hm, hr, -, hb⟩
  rw [List.length_append, be8_len, textB_len] at hm
  have h8 : m14 ≤ 900000 := by have := HDR2.out.txt; omega
  have HR14w := Lib.hid hr; have HB14w := Lib.hid (HB13w.out.trans (hb.mono HB13w.out.size)); have HG14 := Lib.hid (Later.trans HG13.out hb); clear hr hb hm h9
  go_wp2_with fail
  refine (wireInts_any A14 m14 c14 _ Al2 l2.length cl2 l2 e14 HR14w.out (HI2.out.later (Later.trans HG12.out HG14.out)) h8 (by have := HDR2.out.few; omega)).mono ?_
  rw [show be8 x2 ++ textB u2 ++ intsB l2 = tripleB x2 u2 l2 from List.append_assoc _ _ _]
  rintro e e15 ⟨A15, m15, c15, rfl, -, hr, -, hb⟩
  have HR15w := Lib.hid hr; have HB15w := Lib.hid (HB14w.out.trans (hb.mono HB14w.out.size)); have HG15 := Lib.hid (Later.trans HG14.out hb); clear hr hb h8
  go_wp2_with fail
  obtain ⟨t1, ht1⟩ : ∃ z, z = strOf (tripleB x1 u1 l1) := ⟨_, rfl⟩
  obtain ⟨t2, ht2⟩ : ∃ z, z = strOf (tripleB x2 u2 l2) := ⟨_, rfl⟩
  have HT1 := Lib.hid ht1; have HT2 := Lib.hid ht2; clear ht1 ht2
  by_cases hall : x1 = x2 ∧ u1 = u2 ∧ l1 = l2
  · obtain ⟨rfl, rfl, rfl⟩ := hall
    obtain rfl : t1 = t2 := by rw [HT1.out, HT2.out]
    obtain rfl : s1 = s2 := by rw [HS1.out, HS2.out]
    refine wp_region_grow (by kernel_rfl) Later Later.refl (fun _ _ _ => Later.trans) [19, 20, 21, 22] [([], 0), ([1, 2, 3, 4, 5, 6, 7, 8, 9, 10, 11, 12, 13, 14, 15, 16, 17], 18)] (by kernel_rfl) (by kernel_rfl) (by kernel_rfl) ?_
    simp only [List.map_cons, List.map_nil, pick, List.getD_cons_zero, List.getD_cons_succ]
    have HB16 := Lib.hid HB15w.out.drew; have HG16 := Lib.hid (Later.trans HG15.out (Later.drew e15)); have HG17 := Lib.hid (Later.trans (Later.trans HG12.out HG15.out) (Later.drew e15)); have HR16 := Lib.hid (HR15w.out.later (Later.drew e15))
    generalize e15.drew = e16 at HB16 HG16 HG17 HR16 ⊢
    refine wpGrow_cons ?_
    refine wpQuiet_nil ?_
    go_wp2_with fail
    refine (awake_any e16).mono ?_
    rintro e e17 ⟨rfl, hb⟩
    have hcv1 := fun x => conv_fut ((HR12w.out.later HG16.out).later hb) HT1.out x
    have hcv2 := fun x => conv_fut (HR16.out.later hb) HT2.out x
    have HB17 := Lib.hid (HB16.out.trans (hb.mono HB16.out.size)); have HG := Lib.hid hb; have HG18 := Lib.hid (Later.trans HG17.out hb); clear hb
    go_wp2_with fail
    refine pieceEnd_normal ⟨HG.out, ?_⟩
    clear HG
    refine wpGrow_cons ?_
    repeat (go_big_quiet_step (fail))
    refine wpQuiet_nil ?_
    clear hcv1 hcv2
    go_wp2_with fail
    refine (sameInts_yes Al1 Al2 l1.length cl1 cl2 l1 e17 (HI1.out.later HG18.out) (HI2.out.later HG18.out) (by have := HDR1.out.few; omega)).mono ?_
    rintro e e18 ⟨rfl, hb⟩
    have HB18 := Lib.hid (HB17.out.trans (hb.mono HB17.out.size)); have HG := Lib.hid hb; clear hb
    go_wp2_with fail
    refine pieceEnd_normal ⟨HG.out, ?_⟩
    clear HG
    refine wpGrow_nil ?_
    repeat (go_big_quiet_step (fail))
    refine wpQuiet_nil ?_
    go_wp2
    go_ret
    exact ⟨rfl, HB18.out⟩
  · have hts : t1 ≠ t2 := fun e => hall (tripleB_inj HDR1.out.num HDR2.out.num (by have := HDR1.out.txt; omega) (by have := HDR2.out.txt; omega) (by have := HDR1.out.few; omega) (by have := HDR2.out.few; omega) HDR1.out.each HDR2.out.each (strOf_inj (by rw [← HT1.out, ← HT2.out]; exact e)))
    have gt1 := toL_ne hts
    have gt2 : decide (t1.toList = t2.toList) = false := by simpa using gt1
    have HALL := Lib.hid hall; clear hall hts
    by_cases hx : x1 = x2
    · subst hx
      by_cases hs : u1 = u2
      · subst hs
        obtain rfl : s1 = s2 := by rw [HS1.out, HS2.out]
        have hl : l1 ≠ l2 := fun e => HALL.out ⟨rfl, rfl, e⟩
        have HLN := Lib.hid hl; clear hl
        refine wp_region_grow (by kernel_rfl) Later Later.refl (fun _ _ _ => Later.trans) [19, 20, 21, 22] [([], 0), ([1, 2, 3, 4, 5, 6, 7, 8, 9, 10, 11, 12, 13, 14, 15, 16, 17], 18)] (by kernel_rfl) (by kernel_rfl) (by kernel_rfl) ?_
        simp only [List.map_cons, List.map_nil, pick, List.getD_cons_zero, List.getD_cons_succ]
        have HB16 := Lib.hid HB15w.out.drew; have HG16 := Lib.hid (Later.trans HG15.out (Later.drew e15)); have HG17 := Lib.hid (Later.trans (Later.trans HG12.out HG15.out) (Later.drew e15)); have HR16 := Lib.hid (HR15w.out.later (Later.drew e15))
        generalize e15.drew = e16 at HB16 HG16 HG17 HR16 ⊢
        refine wpGrow_cons ?_
        refine wpQuiet_nil ?_
        go_wp2_with fail
        refine (awake_any e16).mono ?_
        rintro e e17 ⟨rfl, hb⟩
        have hcv1 := fun x => conv_fut ((HR12w.out.later HG16.out).later hb) HT1.out x
        have hcv2 := fun x => conv_fut (HR16.out.later hb) HT2.out x
        have HB17 := Lib.hid (HB16.out.trans (hb.mono HB16.out.size)); have HG := Lib.hid hb; have HG18 := Lib.hid (Later.trans HG17.out hb); clear hb
        go_wp2_with fail
        refine pieceEnd_normal ⟨HG.out, ?_⟩
        clear HG
        refine wpGrow_cons ?_
        repeat (go_big_quiet_step (fail))
        refine wpQuiet_nil ?_
        clear hcv1 hcv2
        go_wp2_with fail
        refine (sameInts_no Al1 Al2 l1.length cl1 l2.length cl2 l1 l2 e17 (HI1.out.later HG18.out) (HI2.out.later HG18.out) (by have := HDR1.out.few; omega) (by have := HDR2.out.few; omega) HLN.out).mono ?_
        rintro e e18 ⟨rfl, hb⟩
        have HB18 := Lib.hid (HB17.out.trans (hb.mono HB17.out.size)); have HG := Lib.hid hb; clear hb
        go_wp2_with fail
        refine pieceEnd_normal ⟨HG.out, ?_⟩
        clear HG
        refine wpGrow_nil ?_
        repeat (go_big_quiet_step (fail))
        refine wpQuiet_nil ?_
        go_wp2
        go_ret
        exact ⟨rfl, HB18.out⟩
      · have hss : s1 ≠ s2 := fun e => hs (strOf_inj (by rw [← HS1.out, ← HS2.out]; exact e))
        have gs1 := toL_ne hss
        have gs2 : decide (s1.toList = s2.toList) = false := by simpa using gs1
        clear hss hs
        refine wp_region_grow (by kernel_rfl) Later Later.refl (fun _ _ _ => Later.trans) [19, 20, 21, 22] [([], 0), ([1, 2, 3, 4, 5, 6, 7, 8, 9, 10, 11, 12, 13, 14, 15, 16, 17], 18)] (by kernel_rfl) (by kernel_rfl) (by kernel_rfl) ?_
        simp only [List.map_cons, List.map_nil, pick, List.getD_cons_zero, List.getD_cons_succ]
        have HB16 := Lib.hid HB15w.out.drew; have HG16 := Lib.hid (Later.trans HG15.out (Later.drew e15)); have HG17 := Lib.hid (Later.trans (Later.trans HG12.out HG15.out) (Later.drew e15)); have HR16 := Lib.hid (HR15w.out.later (Later.drew e15))
        generalize e15.drew = e16 at HB16 HG16 HG17 HR16 ⊢
        refine wpGrow_cons ?_
        refine wpQuiet_nil ?_
        go_wp2_with fail
        refine (awake_any e16).mono ?_
        rintro e e17 ⟨rfl, hb⟩
        have hcv1 := fun x => conv_fut ((HR12w.out.later HG16.out).later hb) HT1.out x
        have hcv2 := fun x => conv_fut (HR16.out.later hb) HT2.out x
        have HB17 := Lib.hid (HB16.out.trans (hb.mono HB16.out.size)); have HG := Lib.hid hb; have HG18 := Lib.hid (Later.trans HG17.out hb); clear hb
        go_wp2_with fail
        refine pieceEnd_normal ⟨HG.out, ?_⟩
        clear HG
        refine wpGrow_cons ?_
        repeat (go_big_quiet_step (fail))
        refine wpQuiet_nil ?_
        clear hcv1 hcv2
        go_wp2_with fail
        refine pieceEnd_normal ⟨Later.refl _, ?_⟩
        refine wpGrow_nil ?_
        repeat (go_big_quiet_step (fail))
        refine wpQuiet_nil ?_
        go_wp2
        go_ret
        exact ⟨rfl, HB17.out⟩
    · have gx1 : (x1 == x2) = false := by simpa using hx
      have gx2 : decide (x1 = x2) = false := decide_eq_false hx
      clear hx
      refine wp_region_grow (by kernel_rfl) Later Later.refl (fun _ _ _ => Later.trans) [19, 20, 21, 22] [([], 0), ([1, 2, 3, 4, 5, 6, 7, 8, 9, 10, 11, 12, 13, 14, 15, 16, 17], 18)] (by kernel_rfl) (by kernel_rfl) (by kernel_rfl) ?_
      simp only [List.map_cons, List.map_nil, pick, List.getD_cons_zero, List.getD_cons_succ]
      have HB16 := Lib.hid HB15w.out.drew; have HG16 := Lib.hid (Later.trans HG15.out (Later.drew e15)); have HG17 := Lib.hid (Later.trans (Later.trans HG12.out HG15.out) (Later.drew e15)); have HR16 := Lib.hid (HR15w.out.later (Later.drew e15))
      generalize e15.drew = e16 at HB16 HG16 HG17 HR16 ⊢
      refine wpGrow_cons ?_
      refine wpQuiet_nil ?_
      go_wp2_with fail
      refine (awake_any e16).mono ?_
      rintro e e17 ⟨rfl, hb⟩
      have hcv1 := fun x => conv_fut ((HR12w.out.later HG16.out).later hb) HT1.out x
      have hcv2 := fun x => conv_fut (HR16.out.later hb) HT2.out x
      have HB17 := Lib.hid (HB16.out.trans (hb.mono HB16.out.size)); have HG := Lib.hid hb; have HG18 := Lib.hid (Later.trans HG17.out hb); clear hb
      go_wp2_with fail
      refine pieceEnd_normal ⟨HG.out, ?_⟩
      clear HG
      refine wpGrow_cons ?_
      repeat (go_big_quiet_step (fail))
      refine wpQuiet_nil ?_
      clear hcv1 hcv2
      go_wp2_with fail
      refine pieceEnd_normal ⟨Later.refl _, ?_⟩
      refine wpGrow_nil ?_
      repeat (go_big_quiet_step (fail))
      refine wpQuiet_nil ?_
      go_wp2
      go_ret
      exact ⟨rfl, HB17.out⟩
set_option maxHeartbeats 1000000 in
theorem apart_any (A : Option Addr) (n c : Nat) (t : List Int) (B : Option Addr) (m k : Nat) (u : List Int) (w : World) (ht : IRow w A n c t) (hu : IRow w B m k u) :
    Calls Try.prog 6 #[.slice A n c, .slice B m k] w fun e w' => e = .returned (.bool true) ∧ Below w.heap.size w w' := by
  by_cases h : n ≤ 400
  · by_cases h2 : m ≤ 400
    · exact apart_small A n c t B m k u w ht hu h h2
    · clear ht hu
      have gn : decide (n ≤ 400) = true := decide_eq_true h
      have gm : decide (m ≤ 400) = false := decide_eq_false h2
      go_enter Try.func6, Try.ntmps6
      go_wp2_with fail
      refine (light_any A n c w).mono ?_
      rintro e w' ⟨rfl, rfl⟩
      go_wp2_with fail
      refine (light_any B m k w).mono ?_
      rintro e w' ⟨rfl, rfl⟩
      go_wp2_with fail
      refine (awake_any w).mono ?_
      rintro e w1 ⟨rfl, hb⟩
      go_wp2
      go_ret
      exact ⟨rfl, hb⟩
  · clear ht hu
    have gn : decide (n ≤ 400) = false := decide_eq_false h
    go_enter Try.func6, Try.ntmps6
    go_wp2_with fail
    refine (light_any A n c w).mono ?_
    rintro e w' ⟨rfl, rfl⟩
    go_wp2_with fail
    refine (awake_any w).mono ?_
    rintro e w1 ⟨rfl, hb⟩
    go_wp2
    go_ret
    exact ⟨rfl, hb⟩
end Go.Proofs.Ytmccnfdadipgiaa
