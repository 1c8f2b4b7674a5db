/- What was taken from bytes, written again, is those bytes: plain facts. -/
import Derived.Test.YtnlnbakkobmclaaDoorDecode
import Derived.Test.YtnlnbakkobmclaaDoorEncode
namespace Go.Proofs.YtnlnbakkobmclaaDoor
open Go.RowKit
theorem numB_inj : ∀ (k : Nat) (l m : List UInt8), l.length = k → m.length = k → numB l = numB m → l = m
  | 0, l, m, h1, h2, _ => by rw [List.eq_nil_of_length_eq_zero h1, List.eq_nil_of_length_eq_zero h2]
  | k + 1, l, m, h1, h2, h => by
    have hl : l ≠ [] := fun e => by rw [e] at h1; simp at h1
    have hm : m ≠ [] := fun e => by rw [e] at h2; simp at h2
    rw [← List.dropLast_concat_getLast hl, ← List.dropLast_concat_getLast hm, numB_snoc, numB_snoc] at h
    have a1 := (l.getLast hl).toNat_lt
    have a2 := (m.getLast hm).toNat_lt
    have e1 : numB l.dropLast = numB m.dropLast := by omega
    have e2 : (l.getLast hl).toNat = (m.getLast hm).toNat := by omega
    have e3 := numB_inj k l.dropLast m.dropLast (by simp [h1]) (by simp [h2]) e1
    have e4 : l.getLast hl = m.getLast hm := UInt8.toNat_inj.1 e2
    rw [← List.dropLast_concat_getLast hl, ← List.dropLast_concat_getLast hm, e3, e4]
theorem be8_int8 (l : List UInt8) (h : l.length = 8) : be8 (int8 l) = l := by
  refine numB_inj 8 _ _ (be8_len _) h ?_
  have h1 := numB_be8 (int8 l)
  have h2 := numB_lt 8 l h
  have h3 : int8 l % 18446744073709551616 = (numB l : Int) % 18446744073709551616 := by
    unfold int8 wrap64
    omega
  omega
theorem takeI_back {us : List UInt8} (h : (takeI us).2.2 = true) : us = be8 (takeI us).1 ++ (takeI us).2.1 := by
  unfold takeI at h ⊢
  split
  · rename_i h8
    show us = be8 (int8 (us.take 8)) ++ us.drop 8
    rw [be8_int8 _ (by rw [List.length_take]; omega), List.take_append_drop]
  · rename_i h8
    rw [if_neg h8] at h; cases h
theorem takeS_back {us : List UInt8} {most : Int} (h : (takeS us most).2.2 = true) : us = textB (takeS us most).1.data.toList ++ (takeS us most).2.1 := by
  unfold takeS at h ⊢
  split
  · rename_i hc
    have h1 := hc.len; have h2 := hc.nn; have h3 := hc.fit
    rw [Nat.div_one] at h3
    show us = textB ((us.drop 8).take (cnt us).toNat) ++ us.drop (8 + (cnt us).toNat)
    unfold textB
    rw [List.length_take, List.length_drop, Nat.min_eq_left (by omega), show (((cnt us).toNat : Nat) : Int) = int8 (us.take 8) from by rw [← cnt_nat hc]; rfl, be8_int8 _ (by rw [List.length_take]; omega), List.append_assoc, ← List.drop_drop, List.take_append_drop, List.take_append_drop]
  · rename_i hc
    rw [if_neg hc] at h; cases h
theorem listB_at (us : List UInt8) : ∀ k, 8 + 8 * k ≤ us.length → listB (intsAt us k) = (us.drop 8).take (8 * k)
  | 0, _ => by simp [intsAt, listB]
  | k + 1, h => by
    rw [intsAt_succ, listB_snoc, listB_at us k (by omega)]
    have h1 : be8 (intAt us k) = ((us.drop 8).drop (8 * k)).take 8 := by
      unfold intAt
      rw [List.drop_drop]
      exact be8_int8 _ (by rw [List.length_take, List.length_drop]; omega)
    rw [h1, show 8 * (k + 1) = 8 * k + 8 by omega, List.take_add]
theorem takeL_back {us : List UInt8} {most : Int} (h : (takeL us most).2.2 = true) : us = intsB (takeL us most).1 ++ (takeL us most).2.1 := by
  unfold takeL at h ⊢
  split
  · rename_i hc
    have h1 := hc.len; have h2 := hc.nn; have h3 := hc.fit
    have h4 : 8 * (cnt us).toNat ≤ us.length - 8 := by omega
    show us = intsB (intsAt us (cnt us).toNat) ++ us.drop (8 + 8 * (cnt us).toNat)
    unfold intsB
    rw [intsAt_len, listB_at us _ (by omega), show (((cnt us).toNat : Nat) : Int) = int8 (us.take 8) from by rw [← cnt_nat hc]; rfl, be8_int8 _ (by rw [List.length_take]; omega), List.append_assoc, ← List.drop_drop, List.take_append_drop, List.take_append_drop]
  · rename_i hc
    rw [if_neg hc] at h; cases h
theorem pin_back {us : List UInt8} (h : pinOk us = true) : us = pinBs (pinAt us) ++ pinRest us := by
  unfold pinOk at h
  simp only [Bool.and_eq_true] at h
  have h1 := takeI_back h.1.1
  have h2 := takeI_back h.1.2
  have h3 := takeS_back h.2
  unfold pinBs pinAt pinRest
  simp only
  have e : listB [(takeI us).1, (takeI (takeI us).2.1).1] = be8 (takeI us).1 ++ be8 (takeI (takeI us).2.1).1 := by simp [listB]
  rw [e]
  simp only [List.append_assoc]
  rw [← h3, ← h2, ← h1]
theorem pinsL_back (us : List UInt8) : ∀ j, (pinsL j us).2.2 = true → us = pinsBs (pinsL j us).1 ++ (pinsL j us).2.1
  | 0, _ => by show us = pinsBs [] ++ us; simp [pinsBs]
  | j + 1, h => by
    have h' : ((pinsL j us).2.2 && pinOk (pinsL j us).2.1) = true := h
    simp only [Bool.and_eq_true] at h'
    have h1 := pinsL_back us j h'.1
    have h2 := pin_back h'.2
    show us = pinsBs ((pinsL j us).1 ++ [pinAt (pinsL j us).2.1]) ++ pinRest (pinsL j us).2.1
    rw [pinsBs_snoc, List.append_assoc, ← h2, ← h1]
theorem takeP_back {us : List UInt8} (h : (takeP us).2.2 = true) : us = be8 ((takeP us).1.length : Int) ++ pinsBs (takeP us).1 ++ (takeP us).2.1 := by
  have h1 := takeP_ok h
  unfold takeP at h
  simp only [Bool.and_eq_true] at h
  have h2 := takeI_back h.1.1
  have h3 := pinsL_back _ _ h.2
  show us = be8 (((pinsL (takeI us).1.toNat (takeI us).2.1).1.length : Nat) : Int) ++ pinsBs (pinsL (takeI us).1.toNat (takeI us).2.1).1 ++ (pinsL (takeI us).1.toNat (takeI us).2.1).2.1
  rw [pinsL_len, show (((takeI us).1.toNat : Nat) : Int) = (takeI us).1 by omega, List.append_assoc, ← h3, ← h2]
/-- What was read of bytes, written again, is those bytes. -/
theorem parse_back {us : List UInt8} (h : (parse us).2.2 = true) (h0 : (parse us).2.1 = []) : wholeB (parse us).1 = us := by
  obtain ⟨X0, X1, X2, X3, X4, X5, X6, X7, X8, X9, X10, X11, X12, h0_, h1_, h2_, h3_, h4_, h5_, h6_, h7_, h8_, h9_, h10_, h11_, h12_, hp⟩ := parse_parts us
  rw [hp] at h h0 ⊢
  simp only [Bool.and_eq_true] at h h0
  obtain ⟨⟨⟨⟨⟨⟨⟨⟨⟨⟨⟨⟨k0, k1⟩, k2⟩, k3⟩, k4⟩, k5⟩, k6⟩, k7⟩, k8⟩, k9⟩, k10⟩, k11⟩, k12⟩ := h
  rw [h0_] at k0; have b0 := takeI_back k0; rw [← h0_] at b0
  rw [h1_] at k1; have b1 := takeI_back k1; rw [← h1_] at b1
  rw [h2_] at k2; have b2 := takeS_back k2; rw [← h2_] at b2
  rw [h3_] at k3; have b3 := takeI_back k3; rw [← h3_] at b3
  rw [h4_] at k4; have b4 := takeI_back k4; rw [← h4_] at b4
  rw [h5_] at k5; have b5 := takeI_back k5; rw [← h5_] at b5
  rw [h6_] at k6; have b6 := takeI_back k6; rw [← h6_] at b6
  rw [h7_] at k7; have b7 := takeI_back k7; rw [← h7_] at b7
  rw [h8_] at k8; have b8 := takeL_back k8; rw [← h8_] at b8
  rw [h9_] at k9; have b9 := takeP_back k9; rw [← h9_] at b9
  rw [h10_] at k10; have b10 := takeS_back k10; rw [← h10_] at b10
  rw [h11_] at k11; have b11 := takeI_back k11; rw [← h11_] at b11
  rw [h12_] at k12; have b12 := takeS_back k12; rw [← h12_] at b12
  unfold wholeB bodyB
  simp only [listB, List.flatMap_cons, List.flatMap_nil, List.append_nil, List.append_assoc]
  rw [h0, List.append_nil] at b12
  rw [List.append_assoc] at b9
  rw [← b12, ← b11, ← b10, ← b9, ← b8, ← b7, ← b6, ← b5, ← b4, ← b3, ← b2, ← b1, ← b0]
end Go.Proofs.YtnlnbakkobmclaaDoor
