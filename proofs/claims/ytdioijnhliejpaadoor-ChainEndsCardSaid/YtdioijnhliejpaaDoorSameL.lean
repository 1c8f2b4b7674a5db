/- The walks of the comparisons of lists. -/
import Derived.Test.YtdioijnhliejpaaDoorStructs
import Derived.Test.YtdioijnhliejpaaDoorPins
namespace Go.Proofs.YtdioijnhliejpaaDoor
open Go.RowKit
def sameIB (l m : List Int) : Bool := decide (l.length = m.length) && (List.range l.length).all fun i => l.getD i 0 == m.getD i 0
def pinEq (p q : PinD) : Bool := decide (p.author = q.author) && decide (p.height = q.height) && decide (p.digest = q.digest)
def samePB (l m : List PinD) : Bool := decide (l.length = m.length) && (List.range l.length).all fun i => pinEq (l.getD i noPin) (m.getD i noPin)
theorem sameIB_self (l : List Int) : sameIB l l = true := by simp [sameIB]
theorem samePB_self (l : List PinD) : samePB l l = true := by simp [samePB, pinEq]
theorem IRow.cell' {w : World} {A : Option Addr} {n c : Nat} {l : List Int} (h : IRow w A n c l) (k : Nat) (hk : k < n) : ∃ b off, A = some ⟨b, off, none⟩ ∧ w.cell? ⟨b, off + k, none⟩ = some (.int .i64 (l.getD k 0)) := by
  obtain ⟨b, off, hA, hc⟩ := Row.form h (by omega)
  have hl := h.len
  have := hc k (by omega)
  rw [intsV_get _ _ (by omega)] at this
  exact ⟨b, off, hA, this⟩
set_option maxHeartbeats 1000000 in
theorem equalInts_any (A : Option Addr) (n c : Nat) (l : List Int) (B : Option Addr) (m k : Nat) (l2 : List Int) (w : World) (h1 : IRow w A n c l) (h2 : IRow w B m k l2) (hn : n ≤ 1000000) :
    Calls Tryd.prog 31 #[.slice A n c, .slice B m k] w (SaysL (.bool (sameIB l l2)) w) := by
  have H1 := Lib.hid h1; have H2 := Lib.hid h2
  have HS : Hid (sameIB l l2 = (decide (n = m) && (List.range n).all fun i => l.getD i 0 == l2.getD i 0)) := by unfold Hid sameIB; rw [h1.len, h2.len]
  clear h1 h2
  generalize sameIB l l2 = R at HS ⊢
  go_enter Tryd.func31, Tryd.ntmps31
  by_cases hm : n = m
  · subst hm
    have HS2 : Hid (R = (List.range n).all fun i => l.getD i 0 == l2.getD i 0) := by unfold Hid; rw [HS.out]; simp
    clear HS
    go_wp2_with fail
    go_loopw [13] (fun i wr => ∃ j : Nat, j ≤ n ∧ i = .int .i64 j ∧ Hid (((List.range j).all fun i => l.getD i 0 == l2.getD i 0) = true ∧ Below w.heap.size w wr)) (fun i _ => n - (intOf i).toNat)
    case atStart => exact ⟨0, Nat.zero_le _, rfl, Lib.hid ⟨rfl, Below.refl _ _⟩⟩
    case round =>
      obtain ⟨j, hj, rfl, HQ⟩ := hrel
      by_cases hlt : j < n
      · obtain ⟨b1, o1, hA, hc1⟩ := (H1.out.later HQ.out.2).cell' j hlt
        obtain ⟨b2, o2, hB, hc2⟩ := (H2.out.later HQ.out.2).cell' j hlt
        subst hA; subst hB
        have NO : Hid ((l.getD j 0 == l2.getD j 0) = false → R = false) := Lib.hid fun h => by rw [HS2.out]; exact all_no hlt h
        have YES : Hid ((l.getD j 0 == l2.getD j 0) = true → ((List.range (j + 1)).all fun i => l.getD i 0 == l2.getD i 0) = true) := Lib.hid fun h => all_more HQ.out.1 h
        generalize l.getD j 0 = x at hc1 NO YES
        generalize l2.getD j 0 = y at hc2 NO YES
        have HB := Lib.hid HQ.out.2; clear HQ
        cases g : (x == y)
        · have g2 : (x != y) = true := by simp only [bne, g]; rfl
          have HR := Lib.hid (NO.out g)
          go_wp2_with fail
          go_quiet (fail)
          go_wp2
          go_ret
          exact ⟨by rw [HR.out]; rfl, below_nq HB.out _⟩
        · have g2 : (x != y) = false := by simp only [bne, g]; rfl
          have HY := Lib.hid (YES.out g)
          go_wp2_with fail
          go_quiet (fail)
          go_wp2
          exact ⟨⟨j + 1, hlt, by go_num, Lib.hid ⟨HY.out, below_nq HB.out _⟩⟩, by simp [intOf]; omega⟩
      · have HE : Hid (j = n) := by unfold Hid; omega
        go_wp2
        go_ret
        exact ⟨by rw [HS2.out, ← HE.out, HQ.out.1]; rfl, HQ.out.2⟩
  · have HV : Hid (R = false) := by unfold Hid; rw [HS.out]; simp [hm]
    have g : ((n : Int) != m) = true := by simp; omega
    go_wp2
    go_ret
    exact ⟨by rw [HV.out]; rfl, Below.refl _ _⟩
set_option maxHeartbeats 1000000 in
theorem sameInts_any (A : Option Addr) (n c : Nat) (l : List Int) (B : Option Addr) (m k : Nat) (l2 : List Int) (w : World) (h1 : IRow w A n c l) (h2 : IRow w B m k l2) (hn : n ≤ 1000000) :
    Calls Tryd.prog 44 #[.slice A n c, .slice B m k] w (SaysL (.bool (sameIB l l2)) w) := by
  have H1 := Lib.hid h1; have H2 := Lib.hid h2
  have HS : Hid (sameIB l l2 = (decide (n = m) && (List.range n).all fun i => l.getD i 0 == l2.getD i 0)) := by unfold Hid sameIB; rw [h1.len, h2.len]
  clear h1 h2
  generalize sameIB l l2 = R at HS ⊢
  go_enter Tryd.func44, Tryd.ntmps44
  by_cases hm : n = m
  · subst hm
    have HS2 : Hid (R = (List.range n).all fun i => l.getD i 0 == l2.getD i 0) := by unfold Hid; rw [HS.out]; simp
    clear HS
    go_wp2_with fail
    go_loopw [5] (fun i wr => ∃ j : Nat, j ≤ n ∧ i = .int .i64 j ∧ Hid (((List.range j).all fun i => l.getD i 0 == l2.getD i 0) = true ∧ Below w.heap.size w wr)) (fun i _ => n - (intOf i).toNat)
    case atStart => exact ⟨0, Nat.zero_le _, rfl, Lib.hid ⟨rfl, Below.refl _ _⟩⟩
    case round =>
      obtain ⟨j, hj, rfl, HQ⟩ := hrel
      by_cases hlt : j < n
      · obtain ⟨b1, o1, hA, hc1⟩ := (H1.out.later HQ.out.2).cell' j hlt
        obtain ⟨b2, o2, hB, hc2⟩ := (H2.out.later HQ.out.2).cell' j hlt
        subst hA; subst hB
        have NO : Hid ((l.getD j 0 == l2.getD j 0) = false → R = false) := Lib.hid fun h => by rw [HS2.out]; exact all_no hlt h
        have YES : Hid ((l.getD j 0 == l2.getD j 0) = true → ((List.range (j + 1)).all fun i => l.getD i 0 == l2.getD i 0) = true) := Lib.hid fun h => all_more HQ.out.1 h
        generalize l.getD j 0 = x at hc1 NO YES
        generalize l2.getD j 0 = y at hc2 NO YES
        have HB := Lib.hid HQ.out.2; clear HQ
        cases g : (x == y)
        · have g2 : (x != y) = true := by simp only [bne, g]; rfl
          have HR := Lib.hid (NO.out g)
          go_wp2_with fail
          go_quiet (fail)
          go_wp2
          go_ret
          exact ⟨by rw [HR.out]; rfl, below_nq HB.out _⟩
        · have g2 : (x != y) = false := by simp only [bne, g]; rfl
          have HY := Lib.hid (YES.out g)
          go_wp2_with fail
          go_quiet (fail)
          go_wp2
          exact ⟨⟨j + 1, hlt, by go_num, Lib.hid ⟨HY.out, below_nq HB.out _⟩⟩, by simp [intOf]; omega⟩
      · have HE : Hid (j = n) := by unfold Hid; omega
        go_wp2
        go_ret
        exact ⟨by rw [HS2.out, ← HE.out, HQ.out.1]; rfl, HQ.out.2⟩
  · have HV : Hid (R = false) := by unfold Hid; rw [HS.out]; simp [hm]
    have g : ((n : Int) != m) = true := by simp; omega
    go_wp2
    go_ret
    exact ⟨by rw [HV.out]; rfl, Below.refl _ _⟩
set_option maxHeartbeats 2000000 in
theorem equalPins_any (A : Option Addr) (n c : Nat) (l : List PinD) (B : Option Addr) (m k : Nat) (l2 : List PinD) (w : World) (h1 : PRow w A n c l) (h2 : PRow w B m k l2) (hn : n ≤ 1000000) :
    Calls Tryd.prog 32 #[.slice A n c, .slice B m k] w (SaysL (.bool (samePB l l2)) w) := by
  have H1 := Lib.hid h1; have H2 := Lib.hid h2
  have HS : Hid (samePB l l2 = (decide (n = m) && (List.range n).all fun i => pinEq (l.getD i noPin) (l2.getD i noPin))) := by unfold Hid samePB; rw [h1.len, h2.len]
  clear h1 h2
  generalize samePB l l2 = R at HS ⊢
  go_enter Tryd.func32, Tryd.ntmps32
  by_cases hm : n = m
  · subst hm
    have HS2 : Hid (R = (List.range n).all fun i => pinEq (l.getD i noPin) (l2.getD i noPin)) := by unfold Hid; rw [HS.out]; simp
    clear HS
    go_wp2_with fail
    go_loopw [13] (fun i wr => ∃ j : Nat, j ≤ n ∧ i = .int .i64 j ∧ Hid (((List.range j).all fun i => pinEq (l.getD i noPin) (l2.getD i noPin)) = true ∧ Below w.heap.size w wr)) (fun i _ => n - (intOf i).toNat)
    case atStart => exact ⟨0, Nat.zero_le _, rfl, Lib.hid ⟨rfl, Below.refl _ _⟩⟩
    case round =>
      obtain ⟨j, hj, rfl, HQ⟩ := hrel
      by_cases hlt : j < n
      · obtain ⟨b1, o1, hA, hc0, hc1, hc2⟩ := (H1.out.later HQ.out.2).cells j hlt
        obtain ⟨b2, o2, hB, hd0, hd1, hd2⟩ := (H2.out.later HQ.out.2).cells j hlt
        subst hA; subst hB
        have NO : Hid (pinEq (l.getD j noPin) (l2.getD j noPin) = false → R = false) := Lib.hid fun h => by rw [HS2.out]; exact all_no hlt h
        have YES : Hid (pinEq (l.getD j noPin) (l2.getD j noPin) = true → ((List.range (j + 1)).all fun i => pinEq (l.getD i noPin) (l2.getD i noPin)) = true) := Lib.hid fun h => all_more HQ.out.1 h
        generalize l.getD j noPin = x at hc0 hc1 hc2 NO YES
        generalize l2.getD j noPin = y at hd0 hd1 hd2 NO YES
        have HB := Lib.hid HQ.out.2; clear HQ
        obtain ⟨xa, xh, xd⟩ := x
        obtain ⟨ya, yh, yd⟩ := y
        simp only at hc0 hc1 hc2 hd0 hd1 hd2 NO YES
        by_cases e0 : xa = ya
        · by_cases e1 : xh = yh
          · by_cases e2 : xd.toList = yd.toList
            · have HY := Lib.hid (YES.out (by unfold pinEq; simp [e0, e1, (toList_iff _ _).1 e2]))
              go_wp2_with fail
              go_quiet (fail)
              go_wp2
              exact ⟨⟨j + 1, hlt, by go_num, Lib.hid ⟨HY.out, below_nq HB.out _⟩⟩, by simp [intOf]; omega⟩
            · have e3 : ¬ xd = yd := fun h => e2 ((toList_iff _ _).2 h)
              have HR := Lib.hid (NO.out (by unfold pinEq; simp [e3]))
              go_wp2_with fail
              go_quiet (fail)
              go_wp2
              go_ret
              exact ⟨by rw [HR.out]; rfl, below_nq HB.out _⟩
          · have HR := Lib.hid (NO.out (by unfold pinEq; simp [e1]))
            go_wp2_with fail
            go_quiet (fail)
            go_wp2
            go_ret
            exact ⟨by rw [HR.out]; rfl, below_nq HB.out _⟩
        · have HR := Lib.hid (NO.out (by unfold pinEq; simp [e0]))
          go_wp2_with fail
          go_quiet (fail)
          go_wp2
          go_ret
          exact ⟨by rw [HR.out]; rfl, below_nq HB.out _⟩
      · have HE : Hid (j = n) := by unfold Hid; omega
        go_wp2
        go_ret
        exact ⟨by rw [HS2.out, ← HE.out, HQ.out.1]; rfl, HQ.out.2⟩
  · have HV : Hid (R = false) := by unfold Hid; rw [HS.out]; simp [hm]
    have g : ((n : Int) != m) = true := by simp; omega
    go_wp2
    go_ret
    exact ⟨by rw [HV.out]; rfl, Below.refl _ _⟩
set_option maxHeartbeats 2000000 in
theorem samePins_any (A : Option Addr) (n c : Nat) (l : List PinD) (B : Option Addr) (m k : Nat) (l2 : List PinD) (w : World) (h1 : PRow w A n c l) (h2 : PRow w B m k l2) (hn : n ≤ 1000000) :
    Calls Tryd.prog 45 #[.slice A n c, .slice B m k] w (SaysL (.bool (samePB l l2)) w) := by
  have H1 := Lib.hid h1; have H2 := Lib.hid h2
  have HS : Hid (samePB l l2 = (decide (n = m) && (List.range n).all fun i => pinEq (l.getD i noPin) (l2.getD i noPin))) := by unfold Hid samePB; rw [h1.len, h2.len]
  clear h1 h2
  generalize samePB l l2 = R at HS ⊢
  go_enter Tryd.func45, Tryd.ntmps45
  by_cases hm : n = m
  · subst hm
    have HS2 : Hid (R = (List.range n).all fun i => pinEq (l.getD i noPin) (l2.getD i noPin)) := by unfold Hid; rw [HS.out]; simp
    clear HS
    go_wp2_with fail
    go_loopw [5] (fun i wr => ∃ j : Nat, j ≤ n ∧ i = .int .i64 j ∧ Hid (((List.range j).all fun i => pinEq (l.getD i noPin) (l2.getD i noPin)) = true ∧ Below w.heap.size w wr)) (fun i _ => n - (intOf i).toNat)
    case atStart => exact ⟨0, Nat.zero_le _, rfl, Lib.hid ⟨rfl, Below.refl _ _⟩⟩
    case round =>
      obtain ⟨j, hj, rfl, HQ⟩ := hrel
      by_cases hlt : j < n
      · obtain ⟨b1, o1, hA, hc0, hc1, hc2⟩ := (H1.out.later HQ.out.2).cells j hlt
        obtain ⟨b2, o2, hB, hd0, hd1, hd2⟩ := (H2.out.later HQ.out.2).cells j hlt
        subst hA; subst hB
        have NO : Hid (pinEq (l.getD j noPin) (l2.getD j noPin) = false → R = false) := Lib.hid fun h => by rw [HS2.out]; exact all_no hlt h
        have YES : Hid (pinEq (l.getD j noPin) (l2.getD j noPin) = true → ((List.range (j + 1)).all fun i => pinEq (l.getD i noPin) (l2.getD i noPin)) = true) := Lib.hid fun h => all_more HQ.out.1 h
        generalize l.getD j noPin = x at hc0 hc1 hc2 NO YES
        generalize l2.getD j noPin = y at hd0 hd1 hd2 NO YES
        have HB := Lib.hid HQ.out.2; clear HQ
        obtain ⟨xa, xh, xd⟩ := x
        obtain ⟨ya, yh, yd⟩ := y
        simp only at hc0 hc1 hc2 hd0 hd1 hd2 NO YES
        by_cases e0 : xa = ya
        · by_cases e1 : xh = yh
          · by_cases e2 : xd.toList = yd.toList
            · have HY := Lib.hid (YES.out (by unfold pinEq; simp [e0, e1, (toList_iff _ _).1 e2]))
              go_wp2_with fail
              go_quiet (fail)
              go_wp2
              exact ⟨⟨j + 1, hlt, by go_num, Lib.hid ⟨HY.out, below_nq HB.out _⟩⟩, by simp [intOf]; omega⟩
            · have e3 : ¬ xd = yd := fun h => e2 ((toList_iff _ _).2 h)
              have HR := Lib.hid (NO.out (by unfold pinEq; simp [e3]))
              go_wp2_with fail
              go_quiet (fail)
              go_wp2
              go_ret
              exact ⟨by rw [HR.out]; rfl, below_nq HB.out _⟩
          · have HR := Lib.hid (NO.out (by unfold pinEq; simp [e1]))
            go_wp2_with fail
            go_quiet (fail)
            go_wp2
            go_ret
            exact ⟨by rw [HR.out]; rfl, below_nq HB.out _⟩
        · have HR := Lib.hid (NO.out (by unfold pinEq; simp [e0]))
          go_wp2_with fail
          go_quiet (fail)
          go_wp2
          go_ret
          exact ⟨by rw [HR.out]; rfl, below_nq HB.out _⟩
      · have HE : Hid (j = n) := by unfold Hid; omega
        go_wp2
        go_ret
        exact ⟨by rw [HS2.out, ← HE.out, HQ.out.1]; rfl, HQ.out.2⟩
  · have HV : Hid (R = false) := by unfold Hid; rw [HS.out]; simp [hm]
    have g : ((n : Int) != m) = true := by simp; omega
    go_wp2
    go_ret
    exact ⟨by rw [HV.out]; rfl, Below.refl _ _⟩
end Go.Proofs.YtdioijnhliejpaaDoor
