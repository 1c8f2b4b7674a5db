import Derived.Test.YtjmapbaofpilaaaPackAU
import Derived.Test.YtjmapbaofpilaaaPackAC
import Derived.Lib.Bytealg
import Derived.Lib.Small
import Derived.Test.YtjmapbaofpilaaaPackAB
import Derived.WideKeyRuns
import Derived.Laws.StructEq
import Derived.Shelf.SlSortCmp.WholeK
import Derived.Shelf.SlSortCmp.NoneTotal
/- Plain facts on the vouch between two: it is the last one by then, or none. -/
namespace Go.Proofs.Ytjmapbaofpilaaa
open Go.RowKit
theorem findV_none {fr tu : Int} : ∀ {l : List Vou}, (∀ y ∈ l, ¬ (y.fr = fr ∧ y.tu = tu)) → findV l fr tu = (noVou, false)
  | [], _ => rfl
  | a :: l, h => by
    unfold findV
    rw [if_neg (h a (List.mem_cons.2 (.inl rfl)))]
    exact findV_none fun y hy => h y (List.mem_cons.2 (.inr hy))
theorem findV_one {fr tu : Int} {x : Vou} (hx : x.fr = fr ∧ x.tu = tu) : ∀ {l : List Vou}, x ∈ l → (∀ y ∈ l, y.fr = fr ∧ y.tu = tu → y = x) → findV l fr tu = (x, true)
  | [], h, _ => (nomatch h)
  | a :: l, h, hu => by
    unfold findV
    by_cases ha : a.fr = fr ∧ a.tu = tu
    · rw [if_pos ha, hu a (List.mem_cons.2 (.inl rfl)) ha]
    · rw [if_neg ha]
      rcases List.mem_cons.1 h with rfl | h
      · exact absurd hx ha
      · exact findV_one hx h fun y hy => hu y (List.mem_cons.2 (.inr hy))
theorem Ord10.same {S : List Stm} (h : Ord10 S) {a b : Stm} (ha : a ∈ S) (hb : b ∈ S) (he : a.author = b.author) (hn : a.number = b.number) : a = b := by
  obtain ⟨i, hi, rfl⟩ := mem_at ha
  obtain ⟨j, hj, rfl⟩ := mem_at hb
  rcases Nat.lt_or_ge i j with hc | hc
  · have := h.at hc hj; omega
  · rcases Nat.lt_or_ge j i with hd | hd
    · have := h.at hd hi; omega
    · rw [show i = j by omega]
theorem between_none {S : List Stm} (h : Ord10 S) {fr tu tm : Int} (hn : ∀ t ∈ S, t.kind = 1 → t.author = fr → t.a = tu → ¬ t.time ≤ tm) : betweenS S fr tu tm = (noVou, false) := by
  unfold betweenS
  refine findV_none fun y hy hc => ?_
  obtain ⟨t, ht, rfl⟩ := (active_mem h tm y).1 hy
  exact hn t ht.mem ht.kind hc.1 hc.2 ht.time
/-- The last vouch between two by a time decides. -/
theorem between_last {S : List Stm} (h : Ord10 S) {fr tu tm : Int} {s : Stm} (hs : s ∈ S) (hk : s.kind = 1) (ha : s.author = fr) (hu : s.a = tu) (ht : s.time ≤ tm)
    (hl : ∀ t ∈ S, t.kind = 1 → t.author = fr → t.a = tu → t.time ≤ tm → t.number ≤ s.number) (hg : hasI (goneS S tm) fr = false) (hg2 : hasI (goneS S tm) tu = false) :
    betweenS S fr tu tm = if tm < s.c ∧ (revokedS S s = -1 ∨ tm < revokedS S s) then (vouOf S s, true) else (noVou, false) := by
  have honly : ∀ t, ActS S tm t → t.author = fr → t.a = tu → t = s := fun t a h1 h2 => by
    have h3 := hl t a.mem a.kind h1 h2 a.time
    by_cases h4 : t.number = s.number
    · exact h.same a.mem hs (by rw [h1, ha]) h4
    · exact absurd ⟨s, hs, hk, by rw [h1, ha], by rw [h2, hu], by omega, ht⟩ a.last
  unfold betweenS
  by_cases hc : tm < s.c ∧ (revokedS S s = -1 ∨ tm < revokedS S s)
  · rw [if_pos hc]
    have hact : ActS S tm s := ⟨hs, hk, ht, hc.1, (revoked_by h s tm).1 hc.2, fun ⟨t, h1, h2, h3, h4, h5, h6⟩ => by
      have := hl t h1 h2 (by rw [h3, ha]) (by rw [h4, hu]) h6
      omega, by rw [ha]; exact hg, by rw [hu]; exact hg2⟩
    refine findV_one ⟨ha, hu⟩ ((active_mem h tm _).2 ⟨s, hact, rfl⟩) fun y hy hp => ?_
    obtain ⟨t, a, rfl⟩ := (active_mem h tm y).1 hy
    rw [honly t a hp.1 hp.2]
  · rw [if_neg hc]
    refine findV_none fun y hy hp => ?_
    obtain ⟨t, a, rfl⟩ := (active_mem h tm y).1 hy
    have he := honly t a hp.1 hp.2
    subst he
    exact hc ⟨a.ends, (revoked_by h t tm).2 a.rev⟩
theorem isGone_none {S : List Stm} (h : ∀ s ∈ S, s.kind ≠ 3) (tm k : Int) : isGoneB S tm k = false := by
  unfold isGoneB
  rw [List.any_eq_false]
  intro s hs hc
  unfold leftB at hc
  simp only [Bool.and_eq_true, decide_eq_true_eq] at hc
  exact h s hs hc.1.2
theorem gone_none {S : List Stm} (h : ∀ s ∈ S, s.kind ≠ 3) (tm : Int) : ∀ j, goneUp S tm j = []
  | 0 => rfl
  | j + 1 => by
    unfold goneUp
    rw [gone_none h tm j, isGone_none h]
    rfl
theorem hasI_none {S : List Stm} (h : ∀ s ∈ S, s.kind ≠ 3) (tm x : Int) : hasI (goneS S tm) x = false := by
  unfold goneS
  rw [gone_none h tm 64]
  rfl
theorem hasI_false {x : Int} : ∀ {l : List Int}, hasI l x = false → ∀ g ∈ l, g ≠ x
  | [], _, _, hg => (nomatch hg)
  | a :: l, h, g, hg => by
    unfold hasI at h
    by_cases ha : a = x
    · rw [if_pos ha] at h; cases h
    · rw [if_neg ha] at h
      rcases List.mem_cons.1 hg with rfl | hg
      · exact ha
      · exact hasI_false h g hg
/-- The time of the revocation, when a statement comes behind a list. -/
theorem revoked_snoc (s x : Stm) : ∀ {l : List Stm}, (∀ a ∈ l, 0 ≤ a.time) → (x.author = s.author ∧ s.number < x.number ∧ x.kind = 2 ∧ x.a = s.number → revokedS (l ++ [x]) s = if revokedS l s = -1 then x.time else revokedS l s) ∧ (¬ (x.author = s.author ∧ s.number < x.number ∧ x.kind = 2 ∧ x.a = s.number) → revokedS (l ++ [x]) s = revokedS l s)
  | [], _ => by
    constructor
    · intro hx
      exact if_pos hx
    · intro hx
      exact if_neg hx
  | a :: l, h => by
    have ih := revoked_snoc s x (l := l) fun b hb => h b (List.mem_cons.2 (.inr hb))
    have h0 := h a (List.mem_cons.2 (.inl rfl))
    have e1 : revokedS (a :: l ++ [x]) s = if a.author = s.author ∧ s.number < a.number ∧ a.kind = 2 ∧ a.a = s.number then a.time else revokedS (l ++ [x]) s := rfl
    have e2 : revokedS (a :: l) s = if a.author = s.author ∧ s.number < a.number ∧ a.kind = 2 ∧ a.a = s.number then a.time else revokedS l s := rfl
    rw [e1, e2]
    split
    · refine ⟨fun _ => ?_, fun _ => rfl⟩
      rw [if_neg (by omega)]
    · exact ih
end Go.Proofs.Ytjmapbaofpilaaa
/- What vouch looks for in Active, and that it comes to the same. Plain facts. -/
namespace Go.Proofs.Ytjmapbaofpilaaa
open Go.RowKit
/-- Whether a vouch, looked at alone, holds at a time. -/
def holdsV (p : Vou) (tm : Int) : Bool := decide (p.tm ≤ tm) && (decide (tm < p.en) && (decide (p.rv = -1) || decide (tm < p.rv)))
/-- Whether one of those that follow at once takes its place. -/
def runLater (p : Vou) (tm : Int) : List Vou → Bool
  | [] => false
  | y :: m => if y.fr ≠ p.fr ∨ y.tu ≠ p.tu then false else if y.tm ≤ tm then true else runLater p tm m
def keepA (all : List Vou) (gone : List Int) (tm : Int) (i : Nat) : Bool :=
  holdsV (all.getD i noVou) tm && (!hasI gone (all.getD i noVou).fr && (!hasI gone (all.getD i noVou).tu && !runLater (all.getD i noVou) tm (all.drop (i + 1))))
def actA (all : List Vou) (gone : List Int) (tm : Int) : Nat → List Vou
  | 0 => []
  | i + 1 => actA all gone tm i ++ (if keepA all gone tm i then [all.getD i noVou] else [])
theorem actA_len (all : List Vou) (gone : List Int) (tm : Int) : ∀ i, (actA all gone tm i).length ≤ i
  | 0 => Nat.le_refl _
  | i + 1 => by
    have h := actA_len all gone tm i
    unfold actA
    rw [List.length_append]
    split <;> simp <;> omega
theorem runLater_iff (p : Vou) (tm : Int) : ∀ m : List Vou, runLater p tm m = true ↔ ∃ k, k < m.length ∧ (∀ i, i ≤ k → (m.getD i noVou).fr = p.fr ∧ (m.getD i noVou).tu = p.tu) ∧ (m.getD k noVou).tm ≤ tm
  | [] => by simp [runLater]
  | y :: m => by
    unfold runLater
    split
    · rename_i h
      refine ⟨(fun q => by cases q), ?_⟩
      rintro ⟨k, hk, hs, ht⟩
      have h0 := hs 0 (Nat.zero_le _)
      rw [List.getD_cons_zero] at h0
      rcases h with h | h
      · exact absurd h0.1 h
      · exact absurd h0.2 h
    · rename_i h
      have hy : y.fr = p.fr ∧ y.tu = p.tu := by
        by_cases h1 : y.fr = p.fr
        · by_cases h2 : y.tu = p.tu
          · exact ⟨h1, h2⟩
          · exact absurd (.inr h2) h
        · exact absurd (.inl h1) h
      split
      · rename_i ht
        refine ⟨fun _ => ⟨0, by simp, fun i hi => ?_, by simpa using ht⟩, fun _ => rfl⟩
        have : i = 0 := by omega
        subst this
        simpa using hy
      · rename_i ht
        rw [runLater_iff p tm m]
        constructor
        · rintro ⟨k, hk, hs, h2⟩
          refine ⟨k + 1, by simpa using hk, fun i hi => ?_, by simpa using h2⟩
          cases i with
          | zero => simpa using hy
          | succ i => simpa using hs i (by omega)
        · rintro ⟨k, hk, hs, h2⟩
          cases k with
          | zero => exact absurd (by simpa using h2) ht
          | succ k => exact ⟨k, by simpa using hk, fun i hi => by simpa using hs (i + 1) (by omega), by simpa using h2⟩
theorem run_later {S : List Stm} (h : Ord10 S) (tm : Int) (i : Nat) (hi : i < (vouchesS S).length) : runLater ((vouchesS S).getD i noVou) tm ((vouchesS S).drop (i + 1)) = laterB (vouchesS S) tm i := by
  have hsrt := vouches_sorted h
  rw [Bool.eq_iff_iff, runLater_iff, later_iff h tm i hi]
  have hd : ∀ k, ((vouchesS S).drop (i + 1)).getD k noVou = (vouchesS S).getD (i + 1 + k) noVou := fun k => by
    rw [List.getD_eq_getElem?_getD, List.getD_eq_getElem?_getD, List.getElem?_drop]
  constructor
  · rintro ⟨k, hk, hs, ht⟩
    rw [List.length_drop] at hk
    have hk2 : i + 1 + k < (vouchesS S).length := by omega
    have hsk := hs k (Nat.le_refl _)
    rw [hd] at hsk ht
    have hlt := sortV_at hsrt (show i < i + 1 + k by omega) hk2
    unfold ltV at hlt
    exact ⟨_, getV_mem hk2, hsk.1, hsk.2, by omega, ht⟩
  · intro hy
    have hb := (later_iff h tm i hi).2 hy
    unfold laterB at hb
    rw [Bool.and_eq_true, Bool.and_eq_true, Bool.and_eq_true, decide_eq_true_eq, decide_eq_true_eq, decide_eq_true_eq, decide_eq_true_eq] at hb
    refine ⟨0, by rw [List.length_drop]; omega, fun k hk => ?_, by rw [hd]; exact hb.2.2.2⟩
    have : k = 0 := by omega
    subst this
    rw [hd]
    exact ⟨hb.2.1, hb.2.2.1⟩
theorem actA_same {S : List Stm} (h : Ord10 S) (gone : List Int) (tm : Int) : ∀ i, i ≤ (vouchesS S).length → actA (vouchesS S) gone tm i = activeUp (vouchesS S) gone tm i
  | 0, _ => rfl
  | i + 1, hi => by
    show actA (vouchesS S) gone tm i ++ (if keepA (vouchesS S) gone tm i then [(vouchesS S).getD i noVou] else []) = activeUp (vouchesS S) gone tm i ++ (if keepV (vouchesS S) gone tm i then [(vouchesS S).getD i noVou] else [])
    rw [actA_same h gone tm i (by omega)]
    congr 1
    have : keepA (vouchesS S) gone tm i = keepV (vouchesS S) gone tm i := by
      unfold keepA keepV holdsV
      rw [run_later h tm i (by omega)]
      generalize decide (((vouchesS S).getD i noVou).tm ≤ tm) = a
      generalize decide (tm < ((vouchesS S).getD i noVou).en) = b
      generalize (decide (((vouchesS S).getD i noVou).rv = -1) || decide (tm < ((vouchesS S).getD i noVou).rv)) = c
      generalize laterB (vouchesS S) tm i = d
      generalize hasI gone ((vouchesS S).getD i noVou).fr = e
      generalize hasI gone ((vouchesS S).getD i noVou).tu = f
      revert a b c d e f
      decide
    rw [this]
end Go.Proofs.Ytjmapbaofpilaaa
/- The walks of cmp.Or, cmp.Compare, strings.Compare. -/
namespace Go.Proofs.Ytjmapbaofpilaaa
open Go.RowKit
/-- The first number that is not zero. -/
def firstNZ : List Int → Int
  | [] => 0
  | x :: l => if x = 0 then firstNZ l else x
theorem firstNZ_drop (l : List Int) (j : Nat) (h : ∀ i, i < j → l.getD i 0 = 0) (hj : j ≤ l.length) : firstNZ l = firstNZ (l.drop j) := by
  induction j with
  | zero => rfl
  | succ j ih =>
    rw [ih (fun i hi => h i (by omega)) (by omega), List.drop_eq_getElem_cons (show j < l.length by omega)]
    have h0 := h j (by omega)
    rw [List.getD_eq_getElem?_getD, List.getElem?_eq_getElem (by omega)] at h0
    exact if_pos h0
set_option maxRecDepth 100000 in
set_option maxHeartbeats 1000000 in
theorem or_any (A : Option Addr) (n c : Nat) (l : List Int) (w : World) (hl : IRow w A n c l) (hn : n ≤ 1000000) :
    Calls Try.prog 66 #[.slice A n c] w fun e w' => e = .returned (.int .i64 (firstNZ l)) ∧ w' = w := by
  have HL := Lib.hid hl; have HLN := Lib.hid hl.len
  clear hl
  go_enter Try.func66, Try.ntmps66
  go_wp2
  go_loopw [8] (fun i wr => ∃ j : Nat, j ≤ n ∧ i = .int .i64 j ∧ wr = w ∧ Hid (∀ i, i < j → l.getD i 0 = 0)) (fun i _ => n - (intOf i).toNat)
  case atStart => exact ⟨0, Nat.zero_le _, rfl, rfl, Lib.hid fun _ h => absurd h (Nat.not_lt_zero _)⟩
  case round =>
    obtain ⟨j, hj, rfl, rfl, HQ⟩ := hrel
    by_cases hlt : j < n
    · obtain ⟨ab, off, hA, hc0⟩ := HL.out.cell j hlt
      subst hA
      by_cases hz : l.getD j 0 = 0
      · rw [hz] at hc0
        have HZ := Lib.hid hz; clear hz
        go_wp2
        refine ⟨⟨j + 1, hlt, by go_num, by simp, Lib.hid fun i hi => ?_⟩, by simp [intOf]; omega⟩
        by_cases h : i = j
        · rw [h]; exact HZ.out
        · exact HQ.out i (by omega)
      · have HZ : Hid (firstNZ l = l.getD j 0) := Lib.hid (by
          rw [firstNZ_drop l j HQ.out (by have := HLN.out; omega), List.drop_eq_getElem_cons (show j < l.length by have := HLN.out; omega)]
          have e : l.getD j 0 = l[j]'(by have := HLN.out; omega) := by rw [List.getD_eq_getElem?_getD, List.getElem?_eq_getElem (by have := HLN.out; omega)]; rfl
          rw [e] at hz ⊢
          show (if l[j]'_ = 0 then _ else _) = _
          rw [if_neg hz])
        generalize l.getD j 0 = x at hc0 HZ hz
        have hx : (x != 0) = true := by simpa using hz
        clear hz
        go_wp2
        go_ret
        exact ⟨by rw [HZ.out]; rfl, rfl⟩
    · have HE : Hid (j = n) := by unfold Hid; omega
      go_wp2
      go_ret
      refine ⟨?_, rfl⟩
      rw [firstNZ_drop l j HQ.out (by have := HLN.out; omega), List.drop_eq_nil_of_le (by have := HLN.out; have := HE.out; omega)]
      rfl
set_option maxHeartbeats 1000000 in
theorem cmpInt_any (x y : Int) (w : World) :
    Calls Try.prog 67 #[.int .i64 x, .int .i64 y] w fun e w' => e = .returned (.int .i64 (Lib.compareInt x y)) ∧ w' = w := by
  go_enter Try.func67, Try.ntmps67
  go_wp2
  all_goals (go_ret; refine ⟨?_, rfl⟩; unfold Lib.compareInt; (repeat' split) <;> first | rfl | (exfalso; omega))
end Go.Proofs.Ytjmapbaofpilaaa
/- The walk of store's compare. -/
namespace Go.Proofs.Ytjmapbaofpilaaa
open Go.RowKit
/-- Blocks and draws may have come; nothing has turned. -/
def Laid (a b : World) : Prop := Below a.heap.size a b ∧ a.drawn ≤ b.drawn
theorem Laid.refl (a : World) : Laid a a := ⟨Below.refl _ _, Nat.le_refl _⟩
theorem Laid.trans {a b c : World} (h : Laid a b) (k : Laid b c) : Laid a c := ⟨h.1.trans (k.1.mono h.1.size), Nat.le_trans h.2 k.2⟩
theorem Laid.alloc (a : World) (o : Obj) : Laid a (a.alloc o) := ⟨one_new a o, Nat.le_refl _⟩
theorem Laid.drew (a : World) : Laid a a.drew := ⟨(Below.refl _ _).drew, Nat.le_succ _⟩
end Go.Proofs.Ytjmapbaofpilaaa
/- The walk of vouch's compare, and its order. -/
namespace Go.Proofs.Ytjmapbaofpilaaa
open Go.RowKit
/-- The order of vouches: less than 0, 0, or more. -/
def cmpVo (a b : Vou) : Int := firstNZ [Lib.compareInt a.fr b.fr, Lib.compareInt a.tu b.tu, Lib.compareInt a.nu b.nu]
theorem compareInt_three (x y : Int) : (x < y ∧ Lib.compareInt x y = -1) ∨ (x = y ∧ Lib.compareInt x y = 0) ∨ (y < x ∧ Lib.compareInt x y = 1) := by
  unfold Lib.compareInt
  (repeat' split) <;> omega
theorem cmpVo_iff (a b : Vou) : cmpVo a b < 0 ↔ ltV a b := by
  unfold cmpVo firstNZ firstNZ firstNZ firstNZ ltV
  rcases compareInt_three a.fr b.fr with ⟨h, e⟩ | ⟨h, e⟩ | ⟨h, e⟩
  · rw [e, if_neg (by decide)]; omega
  · rw [e, if_pos rfl]
    rcases compareInt_three a.tu b.tu with ⟨k, f⟩ | ⟨k, f⟩ | ⟨k, f⟩
    · rw [f, if_neg (by decide)]; omega
    · rw [f, if_pos rfl]
      rcases compareInt_three a.nu b.nu with ⟨r, g⟩ | ⟨r, g⟩ | ⟨r, g⟩
      · rw [g, if_neg (by decide)]; omega
      · rw [g, if_pos rfl]; omega
      · rw [g, if_neg (by decide)]; omega
    · rw [f, if_neg (by decide)]; omega
  · rw [e, if_neg (by decide)]; omega
theorem vou_cells7 {w : World} {g : Nat} {p : Vou} {t : TypeId} {fr : Nat × Nat} (h : w.heap[g]? = some (.cells p.arr t fr)) :
    w.cell? ⟨g, 0, none⟩ = some (.int .i64 p.fr) ∧ w.cell? ⟨g, 1, none⟩ = some (.int .i64 p.tu) ∧ w.cell? ⟨g, 2, none⟩ = some (.int .i64 p.lv) ∧ w.cell? ⟨g, 3, none⟩ = some (.int .i64 p.nu) ∧ w.cell? ⟨g, 4, none⟩ = some (.int .i64 p.tm) ∧ w.cell? ⟨g, 5, none⟩ = some (.int .i64 p.en) ∧ w.cell? ⟨g, 6, none⟩ = some (.int .i64 p.rv) :=
  ⟨(cell_of_row _ _ 0 _ _ _ h).trans rfl, (cell_of_row _ _ 1 _ _ _ h).trans rfl, (cell_of_row _ _ 2 _ _ _ h).trans rfl, (cell_of_row _ _ 3 _ _ _ h).trans rfl, (cell_of_row _ _ 4 _ _ _ h).trans rfl, (cell_of_row _ _ 5 _ _ _ h).trans rfl, (cell_of_row _ _ 6 _ _ _ h).trans rfl⟩
theorem vou_futs {F : World → World → Prop} (hr : ∀ w, F w w) {W : World} {g : Nat} {p : Vou} {t : TypeId} {fr : Nat × Nat} (hF : ∀ w', F W w' → w'.heap[g]? = W.heap[g]?) (h : W.heap[g]? = some (.cells p.arr t fr)) :
    (∀ x, (fut F W x).cell? ⟨g, 0, none⟩ = some (.int .i64 p.fr)) ∧ (∀ x, (fut F W x).cell? ⟨g, 1, none⟩ = some (.int .i64 p.tu)) ∧ (∀ x, (fut F W x).cell? ⟨g, 2, none⟩ = some (.int .i64 p.lv)) ∧ (∀ x, (fut F W x).cell? ⟨g, 3, none⟩ = some (.int .i64 p.nu)) ∧ (∀ x, (fut F W x).cell? ⟨g, 4, none⟩ = some (.int .i64 p.tm)) ∧ (∀ x, (fut F W x).cell? ⟨g, 5, none⟩ = some (.int .i64 p.en)) ∧ (∀ x, (fut F W x).cell? ⟨g, 6, none⟩ = some (.int .i64 p.rv)) := by
  have h2 := fun x => vou_cells7 ((hF _ (fut_ok hr W x)).trans h)
  exact ⟨fun x => (h2 x).1, fun x => (h2 x).2.1, fun x => (h2 x).2.2.1, fun x => (h2 x).2.2.2.1, fun x => (h2 x).2.2.2.2.1, fun x => (h2 x).2.2.2.2.2.1, fun x => (h2 x).2.2.2.2.2.2⟩
set_option maxRecDepth 100000 in
set_option maxHeartbeats 1000000 in
theorem compareV_any (p q : Vou) (w : World) : Calls Try.prog 44 #[.agg p.arr, .agg q.arr] w fun e w' => e = .returned (.int .i64 (cmpVo p q)) ∧ Laid w w' := by
  have HB : Hid (Laid w (((w.alloc (.cells p.arr 49)).alloc (.cells q.arr 49)).drew)) := Lib.hid (((Laid.alloc w _).trans (Laid.alloc _ _)).trans (Laid.drew _))
  have HX : Hid ((((w.alloc (.cells p.arr 49)).alloc (.cells q.arr 49)).drew).heap[w.heap.size]? = some (.cells p.arr 49 (0, 0))) := Lib.hid ((Below.heap_alloc _ _ _ (by simp)).trans (heap_alloc_new _ _))
  have HY : Hid ((((w.alloc (.cells p.arr 49)).alloc (.cells q.arr 49)).drew).heap[w.heap.size + 1]? = some (.cells q.arr 49 (0, 0))) := Lib.hid (heap_alloc2_new _ _ _)
  unfold cmpVo
  go_enter Try.func44, Try.ntmps44
  go_wp2_with fail
  refine wp_region_grow (by kernel_rfl) Laid Laid.refl (fun _ _ _ => Laid.trans) [17] [([0, 1, 2, 3, 5, 6, 7, 8, 10, 11, 12, 13], 4), ([], 9), ([], 14), ([], 15), ([], 16)] (by kernel_rfl) (by kernel_rfl) (by kernel_rfl) ?_
  simp only [List.map_cons, List.map_nil, pick, List.getD_cons_zero, List.getD_cons_succ]
  generalize (((w.alloc (.cells p.arr 49)).alloc (.cells q.arr 49)).drew) = w1 at HB HX HY ⊢
  have hlx : w.heap.size < w1.heap.size := (Array.getElem?_eq_some_iff.1 HX.out).1
  have hly : w.heap.size + 1 < w1.heap.size := (Array.getElem?_eq_some_iff.1 HY.out).1
  obtain ⟨hf0, hf1, hf2, hf3, hf4, hf5, hf6⟩ := vou_futs (F := Laid) Laid.refl (p := p) (W := w1) (fun w' h => h.1.block _ hlx) HX.out
  obtain ⟨hg0, hg1, hg2, hg3, hg4, hg5, hg6⟩ := vou_futs (F := Laid) Laid.refl (p := q) (W := w1) (fun w' h => h.1.block _ hly) HY.out
  obtain ⟨x0, x1, x2, x3, x4, x5, x6⟩ := p
  obtain ⟨y0, y1, y2, y3, y4, y5, y6⟩ := q
  simp only at hf0 hf1 hf2 hf3 hf4 hf5 hf6 hg0 hg1 hg2 hg3 hg4 hg5 hg6 ⊢
  refine wpGrow_cons ?_
  repeat (go_big_quiet_step (fail))
  refine wpQuiet_nil ?_
  clear hf0 hf1 hf2 hf3 hf4 hf5 hf6 hg0 hg1 hg2 hg3 hg4 hg5 hg6 HX HY hlx hly
  go_wp2_with fail
  refine (cmpInt_any _ _ _).mono ?_
  rintro e w2 ⟨rfl, rfl⟩
  go_wp2_with fail
  refine pieceEnd_normal ⟨Laid.refl _, ?_⟩
  refine wpGrow_cons ?_
  refine wpQuiet_nil ?_
  go_wp2_with fail
  refine (cmpInt_any _ _ _).mono ?_
  rintro e w3 ⟨rfl, rfl⟩
  go_wp2_with fail
  refine pieceEnd_normal ⟨Laid.refl _, ?_⟩
  refine wpGrow_cons ?_
  refine wpQuiet_nil ?_
  go_wp2_with fail
  refine (cmpInt_any _ _ _).mono ?_
  rintro e w4 ⟨rfl, rfl⟩
  go_wp2_with fail
  refine pieceEnd_normal ⟨Laid.refl _, ?_⟩
  generalize hr1 : Lib.compareInt x0 y0 = r1
  generalize hr2 : Lib.compareInt x1 y1 = r2
  generalize hr3 : Lib.compareInt x3 y3 = r3
  have HR := Lib.hid (And.intro hr1 (And.intro hr2 hr3)); clear hr1 hr2 hr3
  refine wpGrow_cons ?_
  refine wpQuiet_nil ?_
  go_wp2_with fail
  refine pieceEnd_normal ⟨Laid.alloc _ _, ?_⟩
  have HI := Lib.hid (show IRow (w4.alloc (.cells #[.int .i64 r1, .int .i64 r2, .int .i64 r3] 3)) (some ⟨w4.heap.size, 0, none⟩) 3 3 [r1, r2, r3] from Row.of_block (heap_alloc_new _ _) rfl)
  have HB2 := Lib.hid (HB.out.trans (Laid.alloc w4 (.cells #[.int .i64 r1, .int .i64 r2, .int .i64 r3] 3)))
  refine wpGrow_cons ?_
  refine wpQuiet_nil ?_
  go_wp2_with fail
  refine (or_any _ _ _ _ _ HI.out (by omega)).mono ?_
  rintro e w5 ⟨rfl, rfl⟩
  go_wp2_with fail
  refine pieceEnd_normal ⟨Laid.refl _, ?_⟩
  refine wpGrow_nil ?_
  repeat (go_big_quiet_step (fail))
  refine wpQuiet_nil ?_
  go_wp2_with fail
  go_ret
  exact ⟨by rw [HR.out.1, HR.out.2.1, HR.out.2.2]; rfl, HB2.out⟩
end Go.Proofs.Ytjmapbaofpilaaa
/- The walks of vouch's holds and of slices.Contains over numbers. -/
namespace Go.Proofs.Ytjmapbaofpilaaa
open Go.RowKit
set_option maxRecDepth 100000 in
set_option maxHeartbeats 4000000 in
theorem vHolds_any (p : Vou) (tm : Int) (w : World) : Calls Try.prog 37 #[.agg p.arr, .int .i64 tm] w (SaysL (.bool (holdsV p tm)) w) := by
  have HN := Lib.hid (one_new w (.cells p.arr 49))
  have HX : Hid ((w.alloc (.cells p.arr 49)).heap[w.heap.size]? = some (.cells p.arr 49 (0, 0))) := Lib.hid (heap_alloc_new _ _)
  have HV : Hid (holdsV p tm = (decide (p.tm ≤ tm) && (decide (tm < p.en) && (decide (p.rv = -1) || decide (tm < p.rv))))) := Lib.hid rfl
  generalize holdsV p tm = hb at *
  go_enter Try.func37, Try.ntmps37
  go_upto_region 1 with fail
  generalize w.alloc (.cells p.arr 49) = y at *
  obtain ⟨-, -, -, -, hc4, hc5, hc6⟩ := vou_cells7 HX.out
  by_cases k0 : p.tm ≤ tm
  · have b0 : decide (p.tm ≤ tm) = true := decide_eq_true k0
    have K0 := Lib.hid b0; clear k0
    by_cases k1 : tm < p.en
    · have b1 : decide (tm < p.en) = true := decide_eq_true k1
      have K1 := Lib.hid b1; clear k1
      by_cases k2 : p.rv = -1
      · have b2 : (p.rv == -1) = true := by rw [k2]; rfl
        have HE : Hid (hb = true) := Lib.hid (by rw [HV.out, K0.out, K1.out, decide_eq_true k2]; rfl)
        clear k2
        go_wp2_with fail
        go_ret
        exact ⟨by rw [HE.out]; rfl, HN.out⟩
      · have b2 : (p.rv == -1) = false := by rw [beq_eq_false_iff_ne]; exact k2
        have K2 : Hid (decide (p.rv = -1) = false) := Lib.hid (decide_eq_false k2)
        clear k2
        by_cases k3 : tm < p.rv
        · have b3 : decide (tm < p.rv) = true := decide_eq_true k3
          have K3 := Lib.hid b3; clear k3
          have HE : Hid (hb = true) := Lib.hid (by rw [HV.out, K0.out, K1.out, K2.out, K3.out]; rfl)
          go_wp2_with fail
          go_ret
          exact ⟨by rw [HE.out]; rfl, HN.out⟩
        · have b3 : decide (tm < p.rv) = false := decide_eq_false k3
          have K3 := Lib.hid b3; clear k3
          have HE : Hid (hb = false) := Lib.hid (by rw [HV.out, K0.out, K1.out, K2.out, K3.out]; rfl)
          go_wp2_with fail
          go_ret
          exact ⟨by rw [HE.out]; rfl, HN.out⟩
    · have b1 : decide (tm < p.en) = false := decide_eq_false k1
      have K1 := Lib.hid b1; clear k1
      have HE : Hid (hb = false) := Lib.hid (by rw [HV.out, K0.out, K1.out]; rfl)
      go_wp2_with fail
      go_ret
      exact ⟨by rw [HE.out]; rfl, HN.out⟩
  · have b0 : decide (p.tm ≤ tm) = false := decide_eq_false k0
    have K0 := Lib.hid b0; clear k0
    have HE : Hid (hb = false) := Lib.hid (by rw [HV.out, K0.out]; rfl)
    go_wp2_with fail
    go_ret
    exact ⟨by rw [HE.out]; rfl, HN.out⟩
set_option maxRecDepth 100000 in
set_option maxHeartbeats 4000000 in
theorem indexI_any (A : Option Addr) (n c : Nat) (l : List Int) (x : Int) (w : World) (hl : IRow w A n c l) (hn : n ≤ 100000) : Calls Try.prog 60 #[.slice A n c, .int .i64 x] w fun e w' => (∃ r : Int, e = .returned (.int .i64 r) ∧ decide (0 ≤ r) = hasI l x) ∧ Below w.heap.size w w' := by
  have HL := Lib.hid hl; have HLN : Hid (l.length = n) := Lib.hid hl.len
  clear hl
  go_enter Try.func60, Try.ntmps60
  go_wp2_with fail
  go_loopw [8] (fun i wr => ∃ j : Nat, j ≤ n ∧ i = .int .i64 j ∧ Hid (hasI (l.drop j) x = hasI l x ∧ Below w.heap.size w wr)) (fun i _ => n - (intOf i).toNat)
  case atStart => exact ⟨0, Nat.zero_le _, rfl, Lib.hid ⟨rfl, Below.refl _ _⟩⟩
  case round =>
    obtain ⟨j, hj, rfl, HQ⟩ := hrel
    by_cases hlt : j < n
    · have hlt2 : (j : Int) < (n : Int) := by omega
      obtain ⟨b, off, hA, hc⟩ := IRow.cell (HL.out.later HQ.out.2) j hlt
      subst hA
      have HD : Hid (hasI (l.drop j) x = if l.getD j 0 = x then true else hasI (l.drop (j + 1)) x) := Lib.hid (by
        rw [List.drop_eq_getElem_cons (by rw [HLN.out]; exact hlt), hasI, List.getD_eq_getElem?_getD, List.getElem?_eq_getElem (by rw [HLN.out]; exact hlt)]; rfl)
      generalize l.getD j 0 = a at *
      by_cases hax : x = a
      · have b0 : (x == a) = true := by rw [hax]; simp
        have HT : Hid (hasI l x = true) := Lib.hid (by rw [← HQ.out.1, HD.out, if_pos hax.symm])
        clear hax
        go_wp2_with fail
        go_ret
        exact ⟨⟨_, rfl, by rw [HT.out]; exact decide_eq_true (by omega)⟩, HQ.out.2⟩
      · have b0 : (x == a) = false := by rw [beq_eq_false_iff_ne]; exact hax
        have HT : Hid (hasI (l.drop (j + 1)) x = hasI l x) := Lib.hid (by rw [← HQ.out.1, HD.out, if_neg (fun q => hax q.symm)])
        clear hax
        go_wp2_with fail
        exact ⟨⟨j + 1, hlt, by go_num, Lib.hid ⟨HT.out, HQ.out.2⟩⟩, by simp [intOf]; omega⟩
    · have hlt2 : ¬ (j : Int) < (n : Int) := by omega
      have HT : Hid (hasI l x = false) := Lib.hid (by rw [← HQ.out.1, List.drop_eq_nil_of_le (by rw [HLN.out]; omega)]; rfl)
      go_wp2_with fail
      go_ret
      exact ⟨⟨_, rfl, by rw [HT.out]; decide⟩, HQ.out.2⟩
set_option maxRecDepth 100000 in
theorem containsI_any (A : Option Addr) (n c : Nat) (l : List Int) (x : Int) (w : World) (hl : IRow w A n c l) (hn : n ≤ 100000) : Calls Try.prog 38 #[.slice A n c, .int .i64 x] w (SaysL (.bool (hasI l x)) w) := by
  have HI := Lib.hid (indexI_any A n c l x w hl hn)
  clear hl
  go_enter Try.func38, Try.ntmps38
  go_wp2_with fail
  refine HI.out.mono ?_
  rintro e w1 ⟨⟨r, rfl, hr⟩, hb⟩
  have HR : Hid (decide (r ≥ 0) = hasI l x) := Lib.hid hr
  have HB := Lib.hid hb
  clear hr hb HI
  go_wp2_with fail
  go_ret
  exact ⟨by rw [← HR.out]; rfl, HB.out⟩
end Go.Proofs.Ytjmapbaofpilaaa
/- Maps whose keys are places (an author, a number) and whose elements are numbers, as the heap holds them: made, filled, looked into. -/
namespace Go.Proofs.Ytjmapbaofpilaaa
open Go.RowKit Go Go.ChangeMaps
def pkV (k : Int × Int) : Value := .agg #[.int .i64 k.1, .int .i64 k.2]
/-- The entries that hold some pairs, laid in their order, none taken away. -/
def pents : List ((Int × Int) × Int) → Nat → List MapEntry
  | [], _ => []
  | p :: l, i => ⟨pkV p.1, .int .i64 p.2, i⟩ :: pents l (i + 1)
theorem pents_app (l m : List ((Int × Int) × Int)) : ∀ i, pents (l ++ m) i = pents l i ++ pents m (i + l.length) := by
  induction l with
  | nil => intro i; rfl
  | cons p l ih =>
    intro i
    simp only [List.cons_append, pents, ih (i + 1), List.length_cons]
    rw [show i + 1 + l.length = i + (l.length + 1) by omega]
/-- The map in block b holds the pairs l. -/
def PMap (w : World) (b : Nat) (l : List ((Int × Int) × Int)) : Prop := w.heap[b]? = some (.map (pents l 0).toArray l.length)
theorem PMap.lt {w : World} {b : Nat} {l : List ((Int × Int) × Int)} (h : PMap w b l) : b < w.heap.size := (Array.getElem?_eq_some_iff.1 h).1
theorem PMap.later {w w' : World} {b : Nat} {l : List ((Int × Int) × Int)} (h : PMap w b l) (hb : Below w.heap.size w w') : PMap w' b l := (hb.block b h.lt).trans h
theorem pmap_new (w : World) : PMap (w.alloc (.map #[] 0)) w.heap.size [] := heap_alloc_new w _
/-- What stands first at a key. -/
def lookP : List ((Int × Int) × Int) → Int × Int → Option Int
  | [], _ => none
  | p :: l, k => if p.1 = k then some p.2 else lookP l k
theorem lookP_app (l m : List ((Int × Int) × Int)) (k : Int × Int) : lookP (l ++ m) k = (lookP l k).or (lookP m k) := by
  induction l with
  | nil => rfl
  | cons p l ih =>
    show (if p.1 = k then some p.2 else lookP (l ++ m) k) = (if p.1 = k then some p.2 else lookP l k).or _
    split
    · rfl
    · exact ih
set_option maxRecDepth 100000 in
theorem run_eqPlace (a b : Int × Int) (w : World) : (Op.equal 75 (pkV a) (pkV b)).run Try.prog w = .ok (decide (a = b)) w := by
  obtain ⟨a1, a2⟩ := a
  obtain ⟨b1, b2⟩ := b
  have hs : Try.prog.stoodInHeld 75 = false := by kernel_rfl
  have hi := Try.underlying3
  unfold Op.equal pkV
  rw [show Op.maxDepth = 9998 + 1 + 1 from rfl, run_equalIn_agg w (9998 + 1) 75 _ _ (by kernel_rfl) hs]
  have hf : (Try.prog.fieldsOf 75).toList = [{ name := "author", type := 3, offset := 0, embedded := false, tag := "", pkgPath := "trustflow/vouch", byteOffset := 0 }, { name := "number", type := 3, offset := 1, embedded := false, tag := "", pkgPath := "trustflow/vouch", byteOffset := 8 }] := by kernel_rfl
  rw [hf]
  have hp1 := Try.isAgg3
  simp [Op.eqFields, part, Sem.run_bind, hp1, run_equalIn_int w _ _ _ _ _ _ hi, Result.andThen]
  by_cases h : a1 = b1
  · by_cases k : a2 = b2
    · simp [h, k]
    · simp [h, k]
  · simp [h]
set_option maxRecDepth 100000 in
theorem run_checkPlace (e : Bool) (k : Int × Int) (w : World) : (Instr.checkKey e 10000 75 (pkV k)).run Try.prog w = .ok () w := by
  have hu := Try.underlying75
  have hi := Try.underlying3
  unfold pkV
  rw [show (10000 : Nat) = 9998 + 1 + 1 from rfl]
  unfold Instr.checkKey
  have hp1 := Try.isAgg3
  have hc : ∀ v : Int, (Instr.checkKey e (9998 + 1) 3 (.int .i64 v)).run Try.prog w = .ok () w := fun v => by
    unfold Instr.checkKey
    simp only [Sem.run_bind, run_underlying hi, Result.andThen]
    rfl
  simp only [Sem.run_bind, run_underlying hu, Result.andThen]
  rw [← Array.forIn_toList]
  simp [part, Sem.run_bind, hp1, hc, Result.andThen]
set_option maxRecDepth 100000 in
theorem run_askP (k : Int × Int) (w : World) : ∀ (l : List ((Int × Int) × Int)) (i j : Nat), ∃ m, (Instr.findAsking 75 (pkV k) (pents l i) j).run Try.prog w = .ok ((lookP l k).map fun v => (m, Value.int .i64 v)) w
  | [], i, j => ⟨0, by simp [pents, Instr.findAsking, lookP]⟩
  | p :: l, i, j => by
    by_cases h : p.1 = k
    · refine ⟨j, ?_⟩
      simp [pents, Instr.findAsking, lookP, run_eqPlace, Result.andThen, h]
    · obtain ⟨m, hm⟩ := run_askP k w l (i + 1) (j + 1)
      refine ⟨m, ?_⟩
      have h2 : ¬ k = p.1 := fun e => h e.symm
      simp [pents, Instr.findAsking, lookP, run_eqPlace, Result.andThen, h, h2, hm]
set_option maxRecDepth 100000 in
theorem run_findP (k : Int × Int) (w : World) (l : List ((Int × Int) × Int)) : ∃ m, (Instr.findKey 75 (pkV k) (pents l 0)).run Try.prog w = .ok ((lookP l k).map fun v => (m, Value.int .i64 v)) w := by
  obtain ⟨m, hm⟩ := run_askP k w l 0 0
  exact ⟨m, (run_findKey_eq w (by rw [Try.underlying75]) _ _).trans hm⟩
/-- v, ok := m[k]. -/
theorem run_lookP {w : World} {b : Nat} {l : List ((Int × Int) × Int)} (hm : PMap w b l) (k : Int × Int) :
    (Instr.lookup 71 (.map (some b)) (pkV k) true).run Try.prog w = .ok (.tuple #[.int .i64 ((lookP l k).getD 0), .bool (lookP l k).isSome]) w := by
  obtain ⟨m, hf⟩ := run_findP k w l
  have hz := Try.zeroValue3 w
  cases h : lookP l k with
  | none =>
    rw [h] at hf
    simp [Instr.lookup, Sem.run_bind, run_underlying Try.underlying71, Result.andThen_ok, MapKept.run_getObj_map hm, run_checkPlace, hf, hz]
  | some v =>
    rw [h] at hf
    simp [Instr.lookup, Sem.run_bind, run_underlying Try.underlying71, Result.andThen_ok, MapKept.run_getObj_map hm, run_checkPlace, hf]
/-- m[k] = v, k not among the keys. -/
theorem run_putP {w : World} {b : Nat} {l : List ((Int × Int) × Int)} (hm : PMap w b l) (k : Int × Int) (v : Int) (hn : lookP l k = none) :
    (Instr.mapUpdate 71 (.map (some b)) (pkV k) (.int .i64 v)).run Try.prog w = .ok () (setBlock w b (.map (pents (l ++ [(k, v)]) 0).toArray (l ++ [(k, v)]).length)) := by
  obtain ⟨m, hf⟩ := run_findP k w l
  rw [hn] at hf
  have hp : (pents l 0).toArray.push ⟨pkV k, .int .i64 v, l.length⟩ = (pents (l ++ [(k, v)]) 0).toArray := by
    rw [pents_app]; simp [pents]
  have hf' : (Instr.findKey 75 (pkV k) (pents l 0)).run Try.prog w = .ok none w := hf
  simp only [Instr.mapUpdate, Sem.run_bind, run_underlying Try.underlying71, Result.andThen_ok, MapKept.run_getObj_map hm, run_checkPlace, hf', MapKept.run_setObj_map _ hm]
  rw [hp]
  simp [setBlock]
end Go.Proofs.Ytjmapbaofpilaaa
/- What the program's table of revocations holds. Plain facts. -/
namespace Go.Proofs.Ytjmapbaofpilaaa
def stepP (out : List ((Int × Int) × Int)) (s : Stm) : List ((Int × Int) × Int) := if s.kind = 2 ∧ s.a < s.number ∧ lookP out (s.author, s.a) = none then out ++ [((s.author, s.a), s.time)] else out
def revP (l : List Stm) : List ((Int × Int) × Int) := l.foldl stepP []
theorem revP_snoc (l : List Stm) (s : Stm) : revP (l ++ [s]) = stepP (revP l) s := by unfold revP; rw [List.foldl_append]; rfl
theorem look_fold (s : Stm) : ∀ (l : List Stm) (out : List ((Int × Int) × Int)), (lookP (l.foldl stepP out) (s.author, s.number)).getD (-1) = match lookP out (s.author, s.number) with | some v => v | none => revokedS l s
  | [], out => by
    simp only [List.foldl_nil, revokedS]
    cases lookP out (s.author, s.number) <;> rfl
  | x :: l, out => by
    rw [List.foldl_cons, look_fold s l (stepP out x)]
    by_cases hc : x.kind = 2 ∧ x.a < x.number ∧ lookP out (x.author, x.a) = none
    · rw [show stepP out x = out ++ [((x.author, x.a), x.time)] from if_pos hc, lookP_app]
      cases h : lookP out (s.author, s.number) with
      | some v => rfl
      | none =>
        rw [Option.none_or]
        by_cases hk : (x.author, x.a) = (s.author, s.number)
        · rw [show lookP [((x.author, x.a), x.time)] (s.author, s.number) = some x.time from if_pos hk]
          injection hk with h1 h2
          rw [revokedS, if_pos ⟨h1, by omega, hc.1, h2⟩]
        · rw [show lookP [((x.author, x.a), x.time)] (s.author, s.number) = none from if_neg hk]
          rw [revokedS, if_neg (fun q => hk (by rw [q.1, q.2.2.2]))]
    · rw [show stepP out x = out from if_neg hc]
      cases h : lookP out (s.author, s.number) with
      | some v => rfl
      | none =>
        rw [revokedS, if_neg (fun q => hc ⟨q.2.2.1, by omega, by rw [q.1, q.2.2.2]; exact h⟩)]
theorem look_rev (L : List Stm) (s : Stm) : (lookP (revP L) (s.author, s.number)).getD (-1) = revokedS L s := look_fold s L []
end Go.Proofs.Ytjmapbaofpilaaa
/- The walk of vouch's revocations: a table of when what was revoked. -/
namespace Go.Proofs.Ytjmapbaofpilaaa
open Go.RowKit Go Go.ChangeMaps
theorem place_info (a b : Int) : (Try.prog.info? 75).map (·.size) = some (#[Value.int .i64 a, Value.int .i64 b]).size := by rw [show (#[Value.int .i64 a, Value.int .i64 b]).size = 2 from rfl]; kernel_rfl
set_option maxRecDepth 100000 in
set_option maxHeartbeats 4000000 in
theorem revs_any (A : Option Addr) (n c : Nat) (l : List Pl) (w : World) (hl : LRow w A n c l) (hn : n ≤ 100000) : Calls Try.prog 42 #[.slice A n c] w fun e w' => ∃ b, e = .returned (.map (some b)) ∧ PMap w' b (revP (l.map (·.s))) ∧ Below w.heap.size w w' := by
  have HL := Lib.hid hl; have HLN := Lib.hid hl.len
  clear hl
  have hmk : ∀ w, (Instr.makeMap 71 none).run Try.prog w = .ok (.map (some w.heap.size)) (w.alloc (.map #[] 0)) := fun _ => by kernel_rfl
  go_enter Try.func42, Try.ntmps42
  go_wp2_with fail
  clear hmk
  go_loopw [12] (fun i wr => ∃ j : Nat, j ≤ n ∧ i = .int .i64 j ∧ Hid (PMap wr w.heap.size (revP ((l.take j).map (·.s))) ∧ Below w.heap.size w wr)) (fun i _ => n - (intOf i).toNat)
  case atStart => exact ⟨0, Nat.zero_le _, rfl, Lib.hid ⟨pmap_new w, one_new w _⟩⟩
  case round =>
    obtain ⟨j, hj, rfl, HQ⟩ := hrel
    by_cases hlt : j < n
    · have hlt2 : (j : Int) < (n : Int) := by omega
      obtain ⟨b, off, hA, hc⟩ := (HL.out.later HQ.out.2).cells j hlt
      subst hA
      have HST : Hid (revP ((l.take (j + 1)).map (·.s)) = stepP (revP ((l.take j).map (·.s))) (l.getD j noPl).s) := Lib.hid (by rw [take_snocP l j (by rw [HLN.out]; exact hlt), List.map_append]; exact revP_snoc _ _)
      have HC := Lib.hid hc
      clear hc
      generalize l.getD j noPl = q at *
      generalize revP ((l.take j).map (·.s)) = M at *
      go_upto_region 5 with (first | (refine wpList_load_cells rfl 34 (.tmp 14) rfl b (off + j * 13) rfl q.arr _ Try.underlying34 rfl q.info HC.out ?_) | (refine wpList_store_new rfl 34 (.tmp 5) (.tmp 15) rfl 34 _ q.arr rfl rfl q.info rfl q.one ?_))
      have HN2 := Lib.hid (one_new wr (.cells q.arr 34))
      have HX : Hid ((wr.alloc (.cells q.arr 34)).heap[wr.heap.size]? = some (.cells q.arr 34 (0, 0))) := Lib.hid (heap_alloc_new _ _)
      have HM := Lib.hid (HQ.out.1.later HN2.out)
      have HB := Lib.hid (HQ.out.2.trans (HN2.out.mono HQ.out.2.size))
      clear HQ HN2 HC
      generalize wr.alloc (.cells q.arr 34) = x2 at *
      generalize wr.heap.size = g at *
      have hq0 : x2.cell? ⟨g, 0, none⟩ = some (.int .i64 q.s.author) := (cell_of_row _ _ 0 _ _ _ HX.out).trans rfl
      have hq5 : x2.cell? ⟨g, 5, none⟩ = some (.int .i64 q.s.a) := (cell_of_row _ _ 5 _ _ _ HX.out).trans rfl
      go_upto_region 6 with (refine wpList_store_new rfl 75 (.tmp 6) (.tmp 20) rfl 75 _ #[.int .i64 q.s.author, .int .i64 q.s.a] rfl rfl (place_info _ _) rfl rfl ?_)
      clear hq0 hq5
      have HN3 := Lib.hid (one_new x2 (.cells #[.int .i64 q.s.author, .int .i64 q.s.a] 75))
      have HP : Hid ((x2.alloc (.cells #[.int .i64 q.s.author, .int .i64 q.s.a] 75)).heap[x2.heap.size]? = some (.cells #[.int .i64 q.s.author, .int .i64 q.s.a] 75 (0, 0))) := Lib.hid (heap_alloc_new _ _)
      replace HM := Lib.hid (HM.out.later HN3.out)
      replace HB := Lib.hid (HB.out.trans (HN3.out.mono HB.out.size))
      replace HX := Lib.hid ((HN3.out.block _ (Array.getElem?_eq_some_iff.1 HX.out).1).trans HX.out)
      clear HN3
      generalize x2.alloc (.cells #[.int .i64 q.s.author, .int .i64 q.s.a] 75) = z2 at *
      generalize x2.heap.size = g2 at *
      have hq1 : z2.cell? ⟨g, 1, none⟩ = some (.int .i64 q.s.number) := (cell_of_row _ _ 1 _ _ _ HX.out).trans rfl
      have hq3 : z2.cell? ⟨g, 3, none⟩ = some (.int .i64 q.s.time) := (cell_of_row _ _ 3 _ _ _ HX.out).trans rfl
      have hq4 : z2.cell? ⟨g, 4, none⟩ = some (.int .i64 q.s.kind) := (cell_of_row _ _ 4 _ _ _ HX.out).trans rfl
      have hq5 : z2.cell? ⟨g, 5, none⟩ = some (.int .i64 q.s.a) := (cell_of_row _ _ 5 _ _ _ HX.out).trans rfl
      by_cases k0 : q.s.kind = 2
      · have b0 : (q.s.kind != 2) = false := by rw [k0]; rfl
        have K0 := Lib.hid k0; clear k0
        by_cases k1 : q.s.a < q.s.number
        · have b1 : decide (q.s.number ≤ q.s.a) = false := decide_eq_false (by omega)
          have b1' : decide (q.s.a ≥ q.s.number) = false := b1
          have K1 := Lib.hid k1; clear k1
          have hlk := run_lookP HM.out (q.s.author, q.s.a)
          unfold pkV at hlk
          simp only at hlk
          cases hlook : lookP M (q.s.author, q.s.a) with
          | some v =>
            rw [hlook] at hlk
            simp only [Option.getD_some, Option.isSome_some] at hlk
            have HE : Hid (revP ((l.take (j + 1)).map (·.s)) = M) := Lib.hid (by rw [HST.out]; exact if_neg (fun h => by rw [hlook] at h; exact absurd h.2.2 (by simp)))
            clear hlook
            go_wp2_with (refine wpList_load_row rfl 75 (.tmp 6) rfl g2 rfl 75 #[.int .i64 q.s.author, .int .i64 q.s.a] (0, 0) _ HP.out Try.underlying75 rfl (place_info _ _) ?_)
            exact ⟨⟨j + 1, hlt, by go_num, Lib.hid ⟨by rw [HE.out]; exact HM.out, HB.out⟩⟩, by simp [intOf]; omega⟩
          | none =>
            rw [hlook] at hlk
            simp only [Option.getD_none, Option.isSome_none] at hlk
            have HE : Hid (revP ((l.take (j + 1)).map (·.s)) = M ++ [((q.s.author, q.s.a), q.s.time)]) := Lib.hid (by rw [HST.out]; exact if_pos ⟨K0.out, K1.out, hlook⟩)
            have hput := run_putP HM.out (q.s.author, q.s.a) q.s.time hlook
            unfold pkV at hput
            simp only at hput
            clear hlook
            go_wp2_with (refine wpList_load_row rfl 75 (.tmp 6) rfl g2 rfl 75 #[.int .i64 q.s.author, .int .i64 q.s.a] (0, 0) _ HP.out Try.underlying75 rfl (place_info _ _) ?_)
            refine ⟨⟨j + 1, hlt, by go_num, Lib.hid ⟨?_, HB.out.trans ((setBlock_but z2 w.heap.size _).below (Nat.le_refl _) HB.out.size)⟩⟩, by simp [intOf]; omega⟩
            rw [HE.out]
            unfold PMap
            rw [List.length_append]
            exact setBlock_at HM.out
        · have b1 : decide (q.s.number ≤ q.s.a) = true := decide_eq_true (by omega)
          have b1' : decide (q.s.a ≥ q.s.number) = true := b1
          have HE : Hid (revP ((l.take (j + 1)).map (·.s)) = M) := Lib.hid (by rw [HST.out]; exact if_neg (fun h => k1 h.2.1))
          clear k1
          go_wp2_with fail
          exact ⟨⟨j + 1, hlt, by go_num, Lib.hid ⟨by rw [HE.out]; exact HM.out, HB.out⟩⟩, by simp [intOf]; omega⟩
      · have b0 : (q.s.kind != 2) = true := by rw [bne_iff_ne]; exact k0
        have HE : Hid (revP ((l.take (j + 1)).map (·.s)) = M) := Lib.hid (by rw [HST.out]; exact if_neg (fun h => k0 h.1))
        clear k0
        go_wp2_with fail
        exact ⟨⟨j + 1, hlt, by go_num, Lib.hid ⟨by rw [HE.out]; exact HM.out, HB.out⟩⟩, by simp [intOf]; omega⟩
    · have hlt2 : ¬ (j : Int) < (n : Int) := by omega
      have HE : Hid (j = n) := by unfold Hid; omega
      go_wp2_with fail
      go_ret
      refine ⟨_, rfl, ?_, HQ.out.2⟩
      have h := HQ.out.1
      rw [HE.out, List.take_of_length_le (by rw [HLN.out]; exact Nat.le_refl _)] at h
      exact h
end Go.Proofs.Ytjmapbaofpilaaa
/- slices.SortFunc over vouches, with vouch's compare: the shelf's contract at this program. -/
namespace Go.Proofs.Ytjmapbaofpilaaa
open Go.RowKit Go.Shelf Go.Sort
def sortVou_ren : Go.Shelf.Ren := ⟨fun | 6 => 43 | 15 => 64 | 14 => 65 | 28 => 88 | 29 => 89 | 20 => 90 | 21 => 91 | 22 => 92 | 23 => 93 | 24 => 94 | 25 => 95 | 26 => 96 | 27 => 97 | 46 => 107 | 47 => 103 | 48 => 104 | 49 => 108 | 50 => 109 | 57 => 111 | n => n, fun | 22 => 45 | 24 => 49 | 25 => 77 | 3 => 3 | 39 => 93 | 0 => 0 | 53 => 96 | 55 => 98 | 4 => 4 | 46 => 112 | 45 => 111 | 50 => 73 | 5 => 5 | 9 => 9 | 66 => 126 | 70 => 130 | 76 => 134 | 77 => 135 | n => n, fun | n => n⟩
theorem sortVou : SlLaysF0.n6 Try.prog sortVou_ren := {
  mixed := by kernel_rfl
  f6 := ⟨Try.f43.name, by decide, Try.func43.trans (congrArg some (by kernel_rfl))⟩
  f14 := ⟨Try.f65.name, by decide, Try.func65.trans (congrArg some (by kernel_rfl))⟩
  f15 := Try.func64.trans (congrArg some (by kernel_rfl))
  f20 := ⟨Try.f90.name, by decide, Try.func90.trans (congrArg some (by kernel_rfl))⟩
  f21 := ⟨Try.f91.name, by decide, Try.func91.trans (congrArg some (by kernel_rfl))⟩
  f22 := ⟨Try.f92.name, by decide, Try.func92.trans (congrArg some (by kernel_rfl))⟩
  f23 := ⟨Try.f93.name, by decide, Try.func93.trans (congrArg some (by kernel_rfl))⟩
  f24 := ⟨Try.f94.name, by decide, Try.func94.trans (congrArg some (by kernel_rfl))⟩
  f25 := ⟨Try.f95.name, by decide, Try.func95.trans (congrArg some (by kernel_rfl))⟩
  f26 := ⟨Try.f96.name, by decide, Try.func96.trans (congrArg some (by kernel_rfl))⟩
  f27 := ⟨Try.f97.name, by decide, Try.func97.trans (congrArg some (by kernel_rfl))⟩
  f28 := Try.func88.trans (congrArg some (by kernel_rfl))
  f29 := Try.func89.trans (congrArg some (by kernel_rfl))
  f46 := ⟨Try.f107.name, by decide, Try.func107.trans (congrArg some (by kernel_rfl))⟩
  f47 := Try.func103.trans (congrArg some (by kernel_rfl))
  f48 := Try.func104.trans (congrArg some (by kernel_rfl))
  f49 := ⟨Try.f108.name, by decide, Try.func108.trans (congrArg some (by kernel_rfl))⟩
  f50 := ⟨Try.f109.name, by decide, Try.func109.trans (congrArg some (by kernel_rfl))⟩
  f57 := ⟨Try.f111.name, by decide, Try.func111.trans (congrArg some (by kernel_rfl))⟩
  t0 := Try.underlying0
  a0 := Try.isAgg0
  z0 := Try.sizeOf0
  v0 := Try.zeroValue0
  t3 := Try.underlying3
  a3 := Try.isAgg3
  z3 := Try.sizeOf3
  v3 := Try.zeroValue3
  t4 := Try.underlying4
  a4 := Try.isAgg4
  z4 := Try.sizeOf4
  v4 := Try.zeroValue4
  t5 := Try.underlying5
  a5 := Try.isAgg5
  z5 := Try.sizeOf5
  v5 := Try.zeroValue5
  t9 := Try.underlying9
  a9 := Try.isAgg9
  z9 := Try.sizeOf9
  v9 := Try.zeroValue9
  t22 := Try.underlying45
  a22 := Try.isAgg45
  z22 := Try.sizeOf45
  v22 := Try.zeroValue45
  t25 := Try.underlying77
  a25 := Try.isAgg77
  z25 := Try.sizeOf77
  v25 := Try.zeroValue77
  t39 := Try.underlying93
  a39 := Try.isAgg93
  z39 := Try.sizeOf93
  v39 := Try.zeroValue93
  t45 := Try.underlying111
  a45 := Try.isAgg111
  z45 := Try.sizeOf111
  v45 := Try.zeroValue111
  t46 := Try.underlying112
  a46 := Try.isAgg112
  z46 := Try.sizeOf112
  v46 := Try.zeroValue112
  t50 := Try.underlying73
  a50 := Try.isAgg73
  z50 := Try.sizeOf73
  v50 := Try.zeroValue73
  t53 := Try.underlying96
  a53 := Try.isAgg96
  z53 := Try.sizeOf96
  v53 := Try.zeroValue96
  t55 := Try.underlying98
  a55 := Try.isAgg98
  z55 := Try.sizeOf98
  v55 := Try.zeroValue98
  t66 := Try.underlying126
  a66 := Try.isAgg126
  z66 := Try.sizeOf126
  v66 := Try.zeroValue126
  t70 := Try.underlying130
  a70 := Try.isAgg130
  z70 := Try.sizeOf130
  v70 := Try.zeroValue130
  t76 := Try.underlying134
  a76 := Try.isAgg134
  z76 := Try.sizeOf134
  v76 := Try.zeroValue134
  t77 := Try.underlying135
  a77 := Try.isAgg135
  z77 := Try.sizeOf135
  v77 := Try.zeroValue135 }
theorem laid_grow {a b : World} (h : Laid a b) : ∃ q os, b = Sort.grow (a.drewN q) os := by
  obtain ⟨h1, h2⟩ := h
  refine ⟨b.drawn - a.drawn, b.heap.extract a.heap.size b.heap.size, ?_⟩
  obtain ⟨ho, ht, hu, hs, hb⟩ := h1
  obtain ⟨bh, bt, bd, bo, bu⟩ := b
  obtain ⟨ah, at', ad, ao, au⟩ := a
  simp only at ho ht hu hs hb h2
  subst ho ht hu
  unfold Sort.grow World.drewN
  simp only
  congr 1
  · apply Array.ext
    · simp; omega
    · intro i h3 h4
      by_cases hi : i < ah.size
      · rw [Array.getElem_append_left hi]
        have := hb i hi
        rw [Array.getElem?_eq_getElem h3, Array.getElem?_eq_getElem hi] at this
        injection this
      · rw [Array.getElem_append_right (by omega), Array.getElem_extract]
        congr 1
        omega
  · omega
instance : Inhabited Vou := ⟨noVou⟩
theorem cmpLaysV (blk off size : Nat) (w : World) : CmpLays Try.prog 44 #[] Vou.cells 7 cmpVo blk off size w := fun m os dk _ x y => by
  refine Calls.mono (compareV_any x y _) ?_
  rintro e w' ⟨rfl, h⟩
  exact ⟨rfl, laid_grow h⟩
theorem vrow_at (l : List Vou) (t : Nat) (h : t < l.length * 7) : (rowC Vou.cells l)[t]? = some ((Vou.cells (l.getD (t / 7) noVou)).getD (t % 7) undef) := by
  have h1 : t / 7 < l.length := by omega
  have e : t = t / 7 * 7 + t % 7 := by omega
  conv => lhs; rw [e, ← List.getElem?_drop, rowC_drop Vou.len, List.drop_eq_getElem_cons h1]
  show (Vou.cells l[t / 7] ++ rowC Vou.cells _)[t % 7]? = _
  have e1 : l.getD (t / 7) noVou = l[t / 7] := by rw [List.getD_eq_getElem?_getD, List.getElem?_eq_getElem h1]; rfl
  rw [e1, List.getElem?_append_left (by rw [Vou.len]; omega), List.getD_eq_getElem?_getD, List.getElem?_eq_getElem (by rw [Vou.len]; omega)]
  rfl
theorem vflat_at (l : List Vou) (t : Nat) (h : t < l.length * 7) : some ((flatK Vou.cells 7 l.toArray)[t]!) = (rowC Vou.cells l)[t]? := by
  rw [get_flatK _ _ _ _ (by simpa using h), vrow_at l t h]
  have h1 : t / 7 < l.length := by omega
  congr 1
  have e1 : l.toArray[t / 7]! = l.getD (t / 7) noVou := by
    rw [getElem!_pos _ _ (by simpa using h1), List.getD_eq_getElem?_getD, List.getElem?_eq_getElem h1]
    rfl
  rw [e1]
  generalize l.getD (t / 7) noVou = x
  rw [getElem!_pos _ _ (by rw [Vou.len]; omega), List.getD_eq_getElem?_getD, List.getElem?_eq_getElem (by rw [Vou.len]; omega)]
  rfl
theorem cmpVo_swo : Go.Sort.SWO (ltOf cmpVo) where
  irrefl x := by unfold ltOf; rw [decide_eq_false_iff_not, cmpVo_iff]; unfold ltV; omega
  trans x y z h k := by unfold ltOf at *; rw [decide_eq_true_eq, cmpVo_iff] at *; exact ltV_trans h k
  ntrans x y z h k := by unfold ltOf at *; rw [decide_eq_false_iff_not, cmpVo_iff] at *; unfold ltV at *; omega
theorem below_put (w : World) (m blk off : Nat) (d : Array Vou) (os : Array Obj) {B : Nat} (hB : B ≤ blk) (hb : B ≤ w.heap.size) : RowKit.Below B w (sortWorldK Vou.cells 7 w blk off m d os) := by
  refine ⟨rfl, rfl, rfl, ?_, fun k hk => ?_⟩
  · exact size_sortWorldK_c Vou.cells 7 w blk off m d os
  · unfold sortWorldK Sort.grow putRowK putRow mapBlock Sort.ahead
    simp only
    rw [Array.getElem?_append_left (by simp; omega), Array.getElem?_modify, if_neg (by omega)]
/-- The list of a sorted row. -/
def SortedV (l : List Vou) : Prop := ∀ i j, i < j → j < l.length → ¬ cmpVo (l.getD j noVou) (l.getD i noVou) < 0
set_option maxHeartbeats 1000000 in
theorem sortV_any (B : Nat) (v : Value) (n : Nat) (l : List Vou) (w : World) (ho : w.ownsRow B 49 7 v n (rowC Vou.cells l)) (h0 : 0 < n) (hn : n ≤ 1000000) (hB : B ≤ w.heap.size) :
    Calls Try.prog 43 #[v, .func (.func 44) #[] #[]] w fun e w' => e = .returned (.tuple #[]) ∧ ∃ A c l', v = .slice A n c ∧ l'.Perm l ∧ SortedV l' ∧ VRow w' A n c l' ∧ RowKit.Below B w w' := by
  obtain ⟨hlen, ⟨rfl, hz⟩ | ⟨g, cap, cur, rfl, hBg, hg, hnc, hcm, hcs, htk⟩⟩ := ho
  · omega
  have hln : l.length = n := by rw [rowC_len Vou.len] at hlen; omega
  have hcur : ∀ t, t < n * 7 → cur[t]? = (rowC Vou.cells l)[t]? := fun t ht => by
    rw [← htk, List.getElem?_take_of_lt ht]; simp
  have hH : HoldsK Vou.cells 7 w g 0 l.toArray := by
    intro t ht
    have ht' : t < l.length * 7 := by simpa using ht
    rw [Nat.zero_add]
    refine ⟨?_, ?_⟩
    · rw [cell_of_row _ _ _ _ _ _ hg, hcur t (by rw [← hln]; exact ht'), ← vflat_at l t ht']; rfl
    · unfold World.frozen?
      rw [hg]
      simp
  have hblk : g < w.heap.size := (Array.getElem?_eq_some_iff.1 hg).1
  have eg : ∀ args w, (callFunc 44 args).run Try.prog w = .ok (.enter 44 args) w := enters_of Try.func44 (by kernel_rfl) rfl
  have hcon := AnyQ.slices_SortFunc sortVou 7 Try.isAgg49 Try.sizeOf49 Vou.cells Vou.len (fun x u hu => x.ones u hu) cmpVo cmpVo_swo 44 #[] g 0 cap l.toArray w eg (cmpLaysV g 0 _ w) hH hblk (by simp; omega)
  rw [List.size_toArray, hln] at hcon
  refine Calls.mono hcon ?_
  rintro e w' ⟨rfl, d', m, os, hp, hs, rfl⟩
  obtain ⟨hps, -, hpp⟩ := hp
  have hds : d'.size = n := by rw [hps, List.size_toArray, hln]
  refine ⟨rfl, _, _, d'.toList, rfl, ?_, ?_, ?_, below_put w m g 0 d' os hBg hB⟩
  · have e1 : d'.extract 0 n = d' := by rw [← hds]; simp
    have e2 : l.toArray.extract 0 n = l.toArray := by rw [← hln, ← List.size_toArray]; simp
    rw [e1, e2] at hpp
    exact hpp
  · intro i j hij hj
    have hj' : j < d'.size := by simpa using hj
    have h := hs i j (Nat.zero_le _) hij (by omega)
    unfold ltOf at h
    have h2 := of_decide_eq_false h
    have ei : d'[i]! = d'.toList.getD i noVou := by
      rw [getElem!_pos _ _ (by omega), List.getD_eq_getElem?_getD, List.getElem?_eq_getElem (by simp; omega)]; simp
    have ej : d'[j]! = d'.toList.getD j noVou := by
      rw [getElem!_pos _ _ (by omega), List.getD_eq_getElem?_getD, List.getElem?_eq_getElem (by simp; omega)]; simp
    rw [← ei, ← ej]
    exact h2
  · have hH2 := holdsK_sortWorldK_c Vou.cells 7 w g 0 l.toArray d' m os hH hblk (by simp [hds, hln])
    refine ⟨by rw [rowC_len Vou.len]; simp [hds], hnc, fun h => (by cases h), fun ad hA _ => ?_⟩
    injection hA with hA
    subst hA
    refine ⟨g, 0, rfl, fun t ht => ?_⟩
    have ht' : t < d'.size * 7 := by rw [hds]; exact ht
    have h := (hH2 t (by simpa using ht')).1
    rw [h]
    have := vflat_at d'.toList t (by simpa using ht')
    rw [← this]
    simp
theorem sortV_all (B : Nat) (v : Value) (n : Nat) (l : List Vou) (w : World) (ho : w.ownsRow B 49 7 v n (rowC Vou.cells l)) (hn : n ≤ 1000000) (hB : B ≤ w.heap.size) :
    Calls Try.prog 43 #[v, .func (.func 44) #[] #[]] w fun e w' => e = .returned (.tuple #[]) ∧ ∃ A c l', v = .slice A n c ∧ l'.Perm l ∧ SortedV l' ∧ VRow w' A n c l' ∧ RowKit.Below B w w' := by
  by_cases h0 : 0 < n
  · exact sortV_any B v n l w ho h0 hn hB
  · obtain ⟨A, c, hv, hr⟩ := Row.of_own ho
    have hn0 : n = 0 := by omega
    subst hn0
    have hl : l = [] := List.eq_nil_of_length_eq_zero (VRow.len hr)
    subst hl hv
    refine Calls.mono (AnyF.slices_SortFunc_none sortVou A c _ w) ?_
    rintro e w' ⟨rfl, rfl⟩
    exact ⟨rfl, A, c, [], rfl, List.Perm.refl _, fun i j _ h => absurd h (Nat.not_lt_zero _), hr, RowKit.Below.refl _ _⟩
theorem vouches_same {L : List Stm} (h : Ord10 L) {l' : List Vou} (hp : l'.Perm ((L.filter fun s => decide (s.kind = 1)).map (vouOf L))) (hs : SortedV l') : l' = vouchesS L := by
  have hk : (((L.filter fun s => decide (s.kind = 1)).map (vouOf L))).Pairwise fun a b => ¬ keyV a b := by
    rw [List.pairwise_map]
    exact (h.apartN.filter _).imp fun hn hkk => hn ⟨hkk.1, hkk.2.2⟩
  have hk2 : l'.Pairwise fun a b => ¬ keyV a b := (hp.pairwise_iff (fun {a b} hab hba => hab ⟨hba.1.symm, hba.2.1.symm, hba.2.2.symm⟩)).2 hk
  refine sorted_ext (r := ltV) (fun a b h k => by unfold ltV at *; omega) ?_ (vouches_sorted h) fun y => ?_
  · rw [List.pairwise_iff_getElem] at hk2 ⊢
    intro i j hi hj hij
    have h1 := hk2 i j hi hj hij
    have h2 := hs i j hij hj
    rw [cmpVo_iff, getDV hi, getDV hj] at h2
    exact ltV_of_not h2 fun q => h1 ⟨q.1.symm, q.2.1.symm, q.2.2.symm⟩
  · rw [hp.mem_iff, vouches_mem h, List.mem_map]
    constructor
    · rintro ⟨s, hs, rfl⟩
      obtain ⟨h1, h2⟩ := List.mem_filter.1 hs
      exact ⟨s, h1, by simpa using h2, rfl⟩
    · rintro ⟨s, h1, h2, rfl⟩
      exact ⟨s, List.mem_filter.2 ⟨h1, by simpa using h2⟩, rfl⟩
end Go.Proofs.Ytjmapbaofpilaaa
