/- The walks of the reader of package statement: require, number, text, list. -/
import Derived.Test.YtnokhjpileamaaaDoorForm
import Derived.Test.YtnokhjpileamaaaDoorSub
import Derived.Test.YtnokhjpileamaaaDoorBytes
import Derived.Test.YtnokhjpileamaaaDoorDice
import Derived.WalkSmall
namespace Go.Proofs.YtnokhjpileamaaaDoor
open Go.RowKit
/-- A reader in block R, with the bytes us left; they lie below block L. -/
structure RdAt (w : World) (L R : Nat) (us : List UInt8) : Prop where
  here : ∃ A n c, w.heap[R]? = some (.cells #[.slice A n c] 83 (0, 0)) ∧ BRow w A n c us ∧ (∀ ad, A = some ad → 0 < n → ad.block < L)
  low : L ≤ R
theorem RdAt.lt {w : World} {L R : Nat} {us : List UInt8} (h : RdAt w L R us) : R < w.heap.size := by
  obtain ⟨A, n, c, h1, _⟩ := h.here; exact (Array.getElem?_eq_some_iff.1 h1).1
/-- It stays where nothing has turned. -/
theorem RdAt.later {w w' : World} {L R : Nat} {us : List UInt8} (h : RdAt w L R us) (hb : Below w.heap.size w w') : RdAt w' L R us := by
  obtain ⟨A, n, c, h1, h2, h3⟩ := h.here
  exact ⟨⟨A, n, c, (hb.block R (Array.getElem?_eq_some_iff.1 h1).1).trans h1, h2.later hb, h3⟩, h.low⟩
/-- It stays where nothing turns but blocks from L on, other than its own. -/
theorem RdAt.keep {w w' : World} {L R : Nat} {us : List UInt8} (h : RdAt w L R us) (hR : w'.heap[R]? = w.heap[R]?) (hL : ∀ k, k < L → w'.heap[k]? = w.heap[k]?) : RdAt w' L R us := by
  obtain ⟨A, n, c, h1, h2, h3⟩ := h.here
  exact ⟨⟨A, n, c, hR.trans h1, Row.keep h2 fun ad hA h0 _ => hL _ (h3 ad hA h0), h3⟩, h.low⟩
def noStm : PanicEntry := { v := .iface 80 (.agg #[]), recovered := false }
theorem require_yes (p : Value) (w : World) : Calls Tryd.prog 67 #[p, .bool true] w fun e w' => e = .returned (.tuple #[]) ∧ w = w' := by
  go_enter Tryd.func67, Tryd.ntmps67
  go_wp2
  first | go_end0 | refine bodyPost_ret (results_none rfl _ _ _) rfl ?_
  exact ⟨rfl, rfl⟩
theorem require_no (p : Value) (w : World) : Calls Tryd.prog 67 #[p, .bool false] w fun e w' => e = .panicked [noStm] ∧ w = w' := by
  go_enter Tryd.func67, Tryd.ntmps67
  go_wp2
  exact ⟨rfl, rfl, rfl⟩
theorem takeI_le (us : List UInt8) : (takeI us).2.1.length ≤ us.length := by
  unfold takeI; split
  · simp
  · simp
theorem takeS_le (us : List UInt8) (most : Int) : (takeS us most).2.1.length ≤ us.length := by
  unfold takeS; split
  · simp
  · simp
theorem takeL_le (us : List UInt8) (most : Int) : (takeL us most).2.1.length ≤ us.length := by
  unfold takeL; split
  · simp
  · simp
/-- What a reader's method answers: a value, or the panic that ends the reading. -/
def Reads (L R : Nat) (w : World) (v : Value) (rest : List UInt8) (ok : Bool) (e : Ending) (w' : World) : Prop :=
  But R w w' ∧ ((ok = true ∧ e = .returned v ∧ RdAt w' L R rest) ∨ (ok = false ∧ e = .panicked [noStm]))
set_option maxHeartbeats 1000000 in
theorem rdNumber (L R : Nat) (us : List UInt8) (w : World) (h : RdAt w L R us) (_hn : us.length ≤ 900000) :
    Calls Tryd.prog 81 #[.pointer (some ⟨R, 0, none⟩)] w (Reads L R w (.int .i64 (takeI us).1) (takeI us).2.1 (takeI us).2.2) := by
  obtain ⟨⟨A, n, c, hR, hr, hlow⟩, hLR⟩ := h
  have HLOW := Lib.hid hlow; clear hlow
  have hlen := hr.len
  have HT := Lib.hid (takeI_sub A n c us w hr)
  have hc0 : w.cell? ⟨R, 0, none⟩ = some (.slice A n c) := by rw [cell_of_row _ _ _ _ _ _ hR]; rfl
  have hlt : R < w.heap.size := (Array.getElem?_eq_some_iff.1 hR).1
  have HR := Lib.hid hR; have HL := Lib.hid hlt; have HLEN := Lib.hid hlen; clear hR hr hlen hlt
  have hle := takeI_le us
  generalize takeI us = T at HT hle ⊢
  obtain ⟨v, rest, ok⟩ := T
  simp only at hle
  go_enter Tryd.func81, Tryd.ntmps81
  go_wp2_with fail
  refine HT.out.mono ?_
  rintro e w1 ⟨A1, m1, c1, rfl, hr1, hsub, hb⟩
  have HR1 := Lib.hid ((hb.block R HL.out).trans HR.out); have HB := Lib.hid hb; have HX := Lib.hid hr1; have HSB : Hid (∀ ad, A1 = some ad → 0 < m1 → ad.block < L) := Lib.hid (fun ad hA hm => by obtain ⟨ad0, h0, he⟩ := hsub ad hA; rw [he]; exact HLOW.out ad0 h0 (by have h1 : rest.length = m1 := hr1.len; have h2 := HLEN.out; omega)); clear hsub; clear hb hr1 hc0
  simp only
  cases ok
  · go_wp2_with fail
    refine (require_no _ _).mono ?_
    rintro e w2 ⟨rfl, rfl⟩
    go_wp2
    exact ⟨rfl, But.of HB.out, .inr ⟨rfl, rfl⟩⟩
  · go_wp2_with fail
    refine (require_yes _ _).mono ?_
    rintro e w2 ⟨rfl, rfl⟩
    have hc0 : w1.cell? ⟨R, 0, none⟩ = some (.slice A n c) := by rw [cell_of_row _ _ _ _ _ _ HR1.out]; rfl
    have hfz : w1.frozen? ⟨R, 0, none⟩ = false := frozen_of_row _ _ _ _ _ HR1.out
    go_wp2
    go_ret
    refine ⟨(But.of HB.out).trans (But.set _ _ _), .inl ⟨rfl, rfl, ?_⟩⟩
    exact ⟨⟨A1, m1, c1, heap_setCell_same _ _ _ _ _ _ HR1.out, Row.but HX.out (But.set _ _ _) (fun ad hA h0 => by have := HSB.out ad hA h0; omega), HSB.out⟩, hLR⟩
set_option maxHeartbeats 1000000 in
theorem rdText (L R : Nat) (us : List UInt8) (most : Int) (w : World) (h : RdAt w L R us) (hn : us.length ≤ 900000) :
    Calls Tryd.prog 82 #[.pointer (some ⟨R, 0, none⟩), .int .i64 most] w (Reads L R w (.string (takeS us most).1) (takeS us most).2.1 (takeS us most).2.2) := by
  obtain ⟨⟨A, n, c, hR, hr, hlow⟩, hLR⟩ := h
  have HLOW := Lib.hid hlow; clear hlow
  have hlen := hr.len
  have HT := Lib.hid (takeS_sub A n c us most w hr (by omega))
  have hc0 : w.cell? ⟨R, 0, none⟩ = some (.slice A n c) := by rw [cell_of_row _ _ _ _ _ _ hR]; rfl
  have hlt : R < w.heap.size := (Array.getElem?_eq_some_iff.1 hR).1
  have HR := Lib.hid hR; have HL := Lib.hid hlt; have HLEN := Lib.hid hlen; clear hR hr hlen hlt
  have hle := takeS_le us most
  generalize takeS us most = T at HT hle ⊢
  obtain ⟨v, rest, ok⟩ := T
  simp only at hle
  go_enter Tryd.func82, Tryd.ntmps82
  go_wp2_with fail
  refine HT.out.mono ?_
  rintro e w1 ⟨A1, m1, c1, rfl, hr1, hsub, hb⟩
  have HR1 := Lib.hid ((hb.block R HL.out).trans HR.out); have HB := Lib.hid hb; have HX := Lib.hid hr1; have HSB : Hid (∀ ad, A1 = some ad → 0 < m1 → ad.block < L) := Lib.hid (fun ad hA hm => by obtain ⟨ad0, h0, he⟩ := hsub ad hA; rw [he]; exact HLOW.out ad0 h0 (by have h1 : rest.length = m1 := hr1.len; have h2 := HLEN.out; omega)); clear hsub; clear hb hr1 hc0
  simp only
  cases ok
  · go_wp2_with fail
    refine (require_no _ _).mono ?_
    rintro e w2 ⟨rfl, rfl⟩
    go_wp2
    exact ⟨rfl, But.of HB.out, .inr ⟨rfl, rfl⟩⟩
  · go_wp2_with fail
    refine (require_yes _ _).mono ?_
    rintro e w2 ⟨rfl, rfl⟩
    have hc0 : w1.cell? ⟨R, 0, none⟩ = some (.slice A n c) := by rw [cell_of_row _ _ _ _ _ _ HR1.out]; rfl
    have hfz : w1.frozen? ⟨R, 0, none⟩ = false := frozen_of_row _ _ _ _ _ HR1.out
    go_wp2
    go_ret
    refine ⟨(But.of HB.out).trans (But.set _ _ _), .inl ⟨rfl, rfl, ?_⟩⟩
    exact ⟨⟨A1, m1, c1, heap_setCell_same _ _ _ _ _ _ HR1.out, Row.but HX.out (But.set _ _ _) (fun ad hA h0 => by have := HSB.out ad hA h0; omega), HSB.out⟩, hLR⟩
/-- The same of a list. -/
def ReadsL (L R : Nat) (w : World) (l : List Int) (rest : List UInt8) (ok : Bool) (e : Ending) (w' : World) : Prop :=
  But R w w' ∧ ((ok = true ∧ (∃ B m k, e = .returned (.slice B m k) ∧ IRow w' B m k l ∧ New w w' B) ∧ RdAt w' L R rest) ∨ (ok = false ∧ e = .panicked [noStm]))
set_option maxHeartbeats 1000000 in
theorem rdList (L R : Nat) (us : List UInt8) (most : Int) (w : World) (h : RdAt w L R us) (hn : us.length ≤ 900000) :
    Calls Tryd.prog 83 #[.pointer (some ⟨R, 0, none⟩), .int .i64 most] w (ReadsL L R w (takeL us most).1 (takeL us most).2.1 (takeL us most).2.2) := by
  obtain ⟨⟨A, n, c, hR, hr, hlow⟩, hLR⟩ := h
  have HLOW := Lib.hid hlow; clear hlow
  have hlen := hr.len
  have HT := Lib.hid (takeL_sub A n c us most w hr (by omega))
  have hc0 : w.cell? ⟨R, 0, none⟩ = some (.slice A n c) := by rw [cell_of_row _ _ _ _ _ _ hR]; rfl
  have hlt : R < w.heap.size := (Array.getElem?_eq_some_iff.1 hR).1
  have HR := Lib.hid hR; have HL := Lib.hid hlt; have HLEN := Lib.hid hlen; clear hR hr hlen hlt
  have hle := takeL_le us most
  generalize takeL us most = T at HT hle ⊢
  obtain ⟨v, rest, ok⟩ := T
  simp only at hle
  go_enter Tryd.func83, Tryd.ntmps83
  go_wp2_with fail
  refine HT.out.mono ?_
  rintro e w1 ⟨B1, k1, b1, A1, m1, c1, rfl, hi1, hn1, hr1, hsub, hb⟩
  have HR1 := Lib.hid ((hb.block R HL.out).trans HR.out); have HB := Lib.hid hb; have HX := Lib.hid hr1; have HSB : Hid (∀ ad, A1 = some ad → 0 < m1 → ad.block < L) := Lib.hid (fun ad hA hm => by obtain ⟨ad0, h0, he⟩ := hsub ad hA; rw [he]; exact HLOW.out ad0 h0 (by have h1 : rest.length = m1 := hr1.len; have h2 := HLEN.out; omega)); clear hsub; have HI := Lib.hid hi1; have HN := Lib.hid hn1; clear hi1 hn1; clear hb hr1 hc0
  simp only
  cases ok
  · go_wp2_with fail
    refine (require_no _ _).mono ?_
    rintro e w2 ⟨rfl, rfl⟩
    go_wp2
    exact ⟨rfl, But.of HB.out, .inr ⟨rfl, rfl⟩⟩
  · go_wp2_with fail
    refine (require_yes _ _).mono ?_
    rintro e w2 ⟨rfl, rfl⟩
    have hc0 : w1.cell? ⟨R, 0, none⟩ = some (.slice A n c) := by rw [cell_of_row _ _ _ _ _ _ HR1.out]; rfl
    have hfz : w1.frozen? ⟨R, 0, none⟩ = false := frozen_of_row _ _ _ _ _ HR1.out
    go_wp2
    go_ret
    refine ⟨(But.of HB.out).trans (But.set _ _ _), .inl ⟨rfl, ⟨B1, k1, b1, rfl, Row.but HI.out (But.set _ _ _) (fun ad hA _ => by have := (HN.out ad hA).1; have := HL.out; omega), fun ad hA => ⟨(HN.out ad hA).1, by rw [World.size_setCell]; exact (HN.out ad hA).2⟩⟩, ?_⟩⟩
    exact ⟨⟨A1, m1, c1, heap_setCell_same _ _ _ _ _ _ HR1.out, Row.but HX.out (But.set _ _ _) (fun ad hA h0 => by have := HSB.out ad hA h0; omega), HSB.out⟩, hLR⟩
end Go.Proofs.YtnokhjpileamaaaDoor
