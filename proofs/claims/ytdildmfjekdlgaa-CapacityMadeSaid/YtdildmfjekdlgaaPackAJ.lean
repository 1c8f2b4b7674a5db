import Derived.Test.YtdildmfjekdlgaaPackAC
import Derived.Test.YtdildmfjekdlgaaPackAH
import Derived.Test.YtdildmfjekdlgaaRefSameP
import Derived.Test.YtdildmfjekdlgaaPackAB
import Derived.Deep.CutBlock
import Derived.Deep.DeepCutAuto
import Derived.Test.YtdildmfjekdlgaaPackAF
import Derived.Test.YtdildmfjekdlgaaRefCheckP
import Derived.LoopN
import Derived.Test.YtdildmfjekdlgaaPackAA
/- The walk of trustflowlaw06.agree. -/
namespace Go.Proofs.Ytdildmfjekdlgaa
open Go.RowKit
/-- A block is loaded whole in a region that draws its order. -/
theorem wpQuiet_load {P : Program} {ops : Array Oper} {C : World → Prop} {Q : Act → Prop} {a : Act} {o : Oper} {rest : List Oper} (hw : Region.wanted o (yielded ops a.tmps) = true) (ty : TypeId) (x : Operand) (ho : o.op = .load ty x) (ad : Addr)
    (hx : a.eval x = .pointer (some ad)) (v : Value) (hl : ∀ w, C w → (loadVar ty ad).run P w = .ok v w) (h : wpQuiet P ops C Q rest (a.put o.dst v)) : wpQuiet P ops C Q (o :: rest) a :=
  BigFrame.wpQuiet_want hw fun K hK => ⟨v, fun w hC => by
    unfold Oper.quietAt
    have hr : (execOp a.eval o).run P w = .ok (.value v) w := by
      unfold execOp
      simp only [ho, hx, Instr.loadAt, Instr.sureAddr, Sem.run_bind, Sem.run_pure, Result.andThen_ok, hl w hC]
    rw [hr]
    exact ⟨rfl, rfl⟩, hK _ h⟩
end Go.Proofs.Ytdildmfjekdlgaa
/- Contracts over a statement and where its lists lie. -/
namespace Go.Proofs.Ytdildmfjekdlgaa
open Go.RowKit
/-- Its lists are short. -/
structure Few (s : Stm) : Prop where
  list : s.list.length ≤ 1000
  pins : s.pins.length ≤ 1000
theorem Small.few {s : Stm} (h : Small s) : Few s := ⟨h.list, h.pins⟩
/-- A call that gives a statement whose lists lie in blocks that it has made. -/
def GivesP (w : World) (s : Stm) (e : Ending) (w' : World) : Prop := ∃ q : Pl, e = .returned (.agg q.arr) ∧ q.s = s ∧ PlOk w' q ∧ (∀ ad, q.A = some ad → w.heap.size ≤ ad.block) ∧ (∀ ad, q.B = some ad → w.heap.size ≤ ad.block) ∧ Below w.heap.size w w'
theorem GivesS.p {w w' : World} {s : Stm} {e : Ending} (h : GivesS w s e w') : GivesP w s e w' := by
  obtain ⟨A, n, c, B, m, k, he, h1, h2, h3, h4, h5⟩ := h
  exact ⟨⟨s, A, n, c, B, m, k⟩, he, rfl, ⟨h1, h2⟩, fun ad hA => (h3 ad hA).1, fun ad hA => (h4 ad hA).1, h5⟩
end Go.Proofs.Ytdildmfjekdlgaa
/- The walk of the reference's CopyList. -/
namespace Go.Proofs.Ytdildmfjekdlgaa
open Go.RowKit
end Go.Proofs.Ytdildmfjekdlgaa
/- Rows of statements, taken, dropped, read in drawn regions; the reference's order. -/
namespace Go.Proofs.Ytdildmfjekdlgaa
open Go.RowKit
end Go.Proofs.Ytdildmfjekdlgaa
/- The walk of the reference's Own. -/
namespace Go.Proofs.Ytdildmfjekdlgaa
open Go.RowKit
/-- What the call owns lies in blocks that are new. -/
theorem own_ge {w : World} {B : Nat} {e : TypeId} {sz : Nat} {v : Value} {n : Nat} {xs : List Value} (h : w.ownsRow B e sz v n xs) : ∀ k, v.ownBlock = some k → B ≤ k := by
  intro k hk
  rcases h.2 with ⟨hn, _⟩ | ⟨a, cap, cur, rfl, ha, hgg, rest⟩
  · subst hn; cases hk
  · injection hk with hk
    subst hk
    exact ha
/-- The reference's order in a list of one author. -/
def slotB (a x : Stm) : Bool := decide (a.number < x.number) || (decide (a.number = x.number) && Op.bytesLess a.dig.toList x.dig.toList)
theorem slotB_eq (a x : Stm) : slotB a x = if a.number < x.number then true else if a.number = x.number then Op.bytesLess a.dig.toList x.dig.toList else false := by
  unfold slotB
  split
  · rename_i h; rw [decide_eq_true h, Bool.true_or]
  · rename_i h
    rw [decide_eq_false h, Bool.false_or]
    split
    · rename_i h2; rw [decide_eq_true h2, Bool.true_and]
    · rename_i h2; rw [decide_eq_false h2, Bool.false_and]
def slotK : List Stm → Stm → Nat
  | [], _ => 0
  | a :: l, x => if slotB a x then slotK l x + 1 else 0
def putL (l : List Stm) (x : Stm) : List Stm := if slotK l x < l.length ∧ sameS (l.getD (slotK l x) noStm) x = true then l else l.take (slotK l x) ++ x :: l.drop (slotK l x)
def ownStep (au : Int) (l : List Stm) (x : Stm) : List Stm := if x.author = au ∧ checkV x = 0 ∧ sealedB x = true then putL l x else l
/-- The statements of an author that are well formed and sealed, each once, in order. -/
def ownL (au : Int) (l : List Stm) : List Stm := l.foldl (ownStep au) []
theorem ownL_app (au : Int) (l : List Stm) (x : Stm) : ownL au (l ++ [x]) = ownStep au (ownL au l) x := by unfold ownL; rw [List.foldl_append]; rfl
/-- Their lists lie in blocks from B on. -/
def HiL (B : Nat) (l : List Pl) : Prop := ∀ p ∈ l, (∀ ad, p.A = some ad → B ≤ ad.block) ∧ (∀ ad, p.B = some ad → B ≤ ad.block)
theorem HiL.take {B : Nat} {l : List Pl} (h : HiL B l) (k : Nat) : HiL B (l.take k) := fun p hp => h p (List.mem_of_mem_take hp)
theorem HiL.drop {B : Nat} {l : List Pl} (h : HiL B l) (k : Nat) : HiL B (l.drop k) := fun p hp => h p (List.mem_of_mem_drop hp)
theorem HiL.app {B : Nat} {l m : List Pl} (h : HiL B l) (k : HiL B m) : HiL B (l ++ m) := fun p hp => by
  rcases List.mem_append.1 hp with hp | hp
  · exact h p hp
  · exact k p hp
theorem HiL.one {B C : Nat} {r : Pl} (hc : B ≤ C) (hA : ∀ ad, r.A = some ad → C ≤ ad.block) (hB : ∀ ad, r.B = some ad → C ≤ ad.block) : HiL B [r] := fun p hp => by
  rw [List.mem_singleton.1 hp]; exact ⟨fun ad e => Nat.le_trans hc (hA ad e), fun ad e => Nat.le_trans hc (hB ad e)⟩
theorem HiL.mono {B C : Nat} {l : List Pl} (h : HiL B l) (hc : C ≤ B) : HiL C l := fun p hp => ⟨fun ad e => Nat.le_trans hc ((h p hp).1 ad e), fun ad e => Nat.le_trans hc ((h p hp).2 ad e)⟩
theorem HiL.nil (B : Nat) : HiL B [] := fun _ h => (nomatch h)
end Go.Proofs.Ytdildmfjekdlgaa
/- The walk of the reference's Follows. -/
namespace Go.Proofs.Ytdildmfjekdlgaa
open Go.RowKit
def followsR (a b : Stm) : Bool := decide (b.author = a.author) && (decide (b.number = a.number + 1) && (decide (b.prev = digS a) && decide (a.time ≤ b.time)))
end Go.Proofs.Ytdildmfjekdlgaa
/- The walk of the reference's Counted. -/
namespace Go.Proofs.Ytdildmfjekdlgaa
open Go.RowKit
/-- Whether statement i of an author's list goes on the chain of those before it. -/
def stepR (own : List Stm) (i : Nat) : Bool := decide ((own.getD i noStm).number = (i : Int)) && (!(decide (i + 1 < own.length) && decide ((own.getD (i + 1) noStm).number = (i : Int))) && (decide (i = 0) || (followsR (own.getD (i - 1) noStm) (own.getD i noStm) && !decide ((own.getD (i - 1) noStm).kind = 3))))
/-- How many count from the i-th on. -/
def countsFrom (own : List Stm) : Nat → Nat → Nat
  | 0, i => i
  | f + 1, i => if stepR own i then countsFrom own f (i + 1) else i
/-- What counts of an author (the reference's way). -/
def countedR (au : Int) (l : List Stm) : List Stm := (ownL au l).take (countsFrom (ownL au l) (ownL au l).length 0)
theorem countsFrom_step (own : List Stm) (f i : Nat) (h : i < f) (hs : stepR own i = true) : countsFrom own (f - i) i = countsFrom own (f - (i + 1)) (i + 1) := by
  rw [show f - i = (f - (i + 1)) + 1 by omega, countsFrom, if_pos hs]
end Go.Proofs.Ytdildmfjekdlgaa
/- Walks of the reference's Until, Window, and the store's Of, over any list. -/
namespace Go.Proofs.Ytdildmfjekdlgaa
open Go.RowKit
def untilS (tm : Int) (l : List Stm) : List Stm := l.filter (fun s => decide (s.time ≤ tm))
end Go.Proofs.Ytdildmfjekdlgaa
/- The walk of the reference's Counted over a store. -/
namespace Go.Proofs.Ytdildmfjekdlgaa
open Go.RowKit
end Go.Proofs.Ytdildmfjekdlgaa
/- The walk of the reference's Order over any list. -/
namespace Go.Proofs.Ytdildmfjekdlgaa
open Go.RowKit
end Go.Proofs.Ytdildmfjekdlgaa
/- Plain facts on lists of statements by time: what until, windows, order and the latest time come to; what counts is linked. -/
namespace Go.Proofs.Ytdildmfjekdlgaa
open Go.RowKit
/-- Each statement but those with the number 0 stands behind the one before it. -/
def Linked : Option Stm → List Stm → Prop
  | _, [] => True
  | o, s :: l => (0 < s.number → ∃ p, o = some p ∧ p.author = s.author ∧ p.number = s.number - 1 ∧ p.time ≤ s.time) ∧ Linked (some s) l
theorem Linked.any : ∀ {l : List Stm} {o : Option Stm}, Linked none l → Linked o l
  | [], _, _ => trivial
  | _ :: _, _, h => ⟨fun h0 => (by obtain ⟨p, hp, _⟩ := h.1 h0; cases hp), h.2⟩
theorem Linked.app : ∀ {l m : List Stm} {o : Option Stm}, Linked o l → Linked none m → Linked o (l ++ m)
  | [], _, _, _, h => h.any
  | _ :: _, _, _, h, k => ⟨h.1, h.2.app k⟩
theorem Linked.until (tm : Int) : ∀ {l : List Stm} {o o' : Option Stm}, Linked o l → (∀ p, o = some p → p.time ≤ tm → o' = some p) → Linked o' (untilS tm l)
  | [], _, _, _, _ => trivial
  | s :: l, o, o', h, k => by
    by_cases hs : s.time ≤ tm
    · rw [show untilS tm (s :: l) = s :: untilS tm l from List.filter_cons_of_pos (by exact decide_eq_true hs)]
      refine ⟨fun h0 => ?_, h.2.until tm fun p hp _ => hp⟩
      obtain ⟨p, hp, h1, h2, h3⟩ := h.1 h0
      exact ⟨p, k p hp (by omega), h1, h2, h3⟩
    · rw [show untilS tm (s :: l) = untilS tm l from List.filter_cons_of_neg (by rw [decide_eq_false hs]; decide)]
      exact h.2.until tm fun p hp hpt => by injection hp with hp; rw [← hp] at hpt; exact absurd hpt hs
theorem Linked.at : ∀ {l : List Stm} {o : Option Stm}, Linked o l → ∀ i, i < l.length → 0 < (l.getD i noStm).number →
    (i = 0 ∧ ∃ p, o = some p ∧ p.author = (l.getD i noStm).author ∧ p.number = (l.getD i noStm).number - 1) ∨ (0 < i ∧ (l.getD (i - 1) noStm).author = (l.getD i noStm).author ∧ (l.getD (i - 1) noStm).number = (l.getD i noStm).number - 1)
  | [], _, _, i, hi, _ => absurd hi (Nat.not_lt_zero _)
  | s :: l, o, h, i, hi, h0 => by
    cases i with
    | zero =>
      obtain ⟨p, hp, h1, h2, _⟩ := h.1 h0
      exact .inl ⟨rfl, p, hp, h1, h2⟩
    | succ i =>
      have h3 := Linked.at h.2 i (Nat.lt_of_succ_lt_succ hi) h0
      rcases h3 with ⟨rfl, p, hp, h1, h2⟩ | ⟨hi0, h1, h2⟩
      · injection hp with hp
        subst hp
        exact .inr ⟨Nat.succ_pos _, h1, h2⟩
      · obtain ⟨k, rfl⟩ : ∃ k, i = k + 1 := ⟨i - 1, by omega⟩
        exact .inr ⟨Nat.succ_pos _, h1, h2⟩
theorem check_bounds {s : Stm} (h : checkV s = 0) : 0 ≤ s.time ∧ s.time ≤ 2147483648 ∧ 0 ≤ s.number ∧ s.number ≤ 199 := by
  unfold checkV at h
  split at h
  · exact absurd h (by decide)
  · split at h
    · exact absurd h (by decide)
    · split at h
      · exact absurd h (by decide)
      · rename_i ht
        split at h
        · exact absurd h (by decide)
        · rename_i hr
          have ht2 : btw s.time 0 2147483648 = true := by simpa using ht
          have hr2 : rangeB s = true := by simpa using hr
          unfold rangeB at hr2
          simp only [Bool.and_eq_true] at hr2
          have hr3 := hr2.1.1.1.1.1
          unfold btw at ht2 hr3
          rw [Bool.and_eq_true, decide_eq_true_eq, decide_eq_true_eq] at ht2 hr3
          exact ⟨ht2.1, ht2.2, hr3.1, hr3.2⟩
end Go.Proofs.Ytdildmfjekdlgaa
/- Rows of things of k cells each. Plain facts. -/
namespace Go.Proofs.Ytdildmfjekdlgaa
open Go.RowKit
section
variable {α : Type}
/-- Things one behind the other, each of k cells. -/
def rowC (cs : α → List Value) (l : List α) : List Value := l.flatMap cs
variable {cs : α → List Value} {k : Nat}
theorem rowC_len (hk : ∀ a, (cs a).length = k) (l : List α) : (rowC cs l).length = l.length * k := by
  induction l with
  | nil => simp [rowC]
  | cons s l ih => simp only [rowC, List.flatMap_cons, List.length_append, List.length_cons] at *; rw [ih, hk]; rw [Nat.succ_mul]; omega
theorem rowC_app (l m : List α) : rowC cs (l ++ m) = rowC cs l ++ rowC cs m := by simp [rowC]
theorem rowC_drop (hk : ∀ a, (cs a).length = k) (l : List α) : ∀ i, (rowC cs l).drop (i * k) = rowC cs (l.drop i) := by
  induction l with
  | nil => intro i; simp [rowC]
  | cons s l ih =>
    intro i
    cases i with
    | zero => rw [Nat.zero_mul]; rfl
    | succ i =>
      rw [List.drop_succ_cons, ← ih i]
      simp only [rowC, List.flatMap_cons]
      rw [show (i + 1) * k = (cs s).length + i * k by rw [hk, Nat.succ_mul]; omega, ← List.drop_drop, List.drop_left]
theorem rowC_take (hk : ∀ a, (cs a).length = k) (l : List α) (i : Nat) (h : i ≤ l.length) : (rowC cs l).take (i * k) = rowC cs (l.take i) := by
  have hl : (rowC cs (l.take i)).length = i * k := by rw [rowC_len hk, List.length_take]; congr 1; omega
  conv => lhs; rw [← List.take_append_drop i l, rowC_app]
  rw [List.take_append_of_le_length (by omega), List.take_of_length_le (by omega)]
theorem rowC_ones (ho : ∀ a, ∀ u ∈ cs a, u.oneCell' = true) (l : List α) : ∀ u ∈ rowC cs l, u.oneCell' = true := by
  intro u hu
  simp only [rowC, List.mem_flatMap] at hu
  obtain ⟨s, _, hs⟩ := hu
  exact ho s u hs
/-- A slice that reads as such a row. -/
def GRow (cs : α → List Value) (k : Nat) (w : World) (A : Option Addr) (n c : Nat) (l : List α) : Prop := Row w A n c k (rowC cs l)
theorem GRow.later {w w' : World} {A : Option Addr} {n c : Nat} {l : List α} (h : GRow cs k w A n c l) (hb : Later w w') : GRow cs k w' A n c l := Row.later h hb
theorem GRow.len (hk : ∀ a, (cs a).length = k) (h0 : 0 < k) {w : World} {A : Option Addr} {n c : Nat} {l : List α} (h : GRow cs k w A n c l) : l.length = n := by
  have h1 := Row.len h
  rw [rowC_len hk] at h1
  exact Nat.eq_of_mul_eq_mul_right h0 h1
theorem GRow.cells (hk : ∀ a, (cs a).length = k) (h0 : 0 < k) {w : World} {A : Option Addr} {n c : Nat} {l : List α} (h : GRow cs k w A n c l) (d : α) (i : Nat) (hi : i < n) :
    ∃ b off, A = some ⟨b, off, none⟩ ∧ ∀ j, j < k → w.cell? ⟨b, off + i * k + j, none⟩ = (cs (l.getD i d))[j]? := by
  obtain ⟨b, off, hA, hc⟩ := Row.form h (by omega)
  refine ⟨b, off, hA, fun j hj => ?_⟩
  have hl := GRow.len hk h0 h
  have hik : i * k + j < n * k := by
    have h1 : (i + 1) * k ≤ n * k := Nat.mul_le_mul_right _ hi
    rw [Nat.succ_mul] at h1
    omega
  have h1 : (rowC cs l)[i * k + j]? = (rowC cs (l.drop i))[j]? := by rw [← rowC_drop hk, List.getElem?_drop]
  have h2 : l.drop i = l.getD i d :: l.drop (i + 1) := by
    rw [List.drop_eq_getElem_cons (by omega)]; simp [show i < l.length by omega]
  rw [Nat.add_assoc, hc _ hik, h1, h2]
  show (cs (l.getD i d) ++ rowC cs (l.drop (i + 1)))[j]? = _
  rw [List.getElem?_append_left (by rw [hk]; exact hj)]
theorem GRow.futs {F : World → World → Prop} (hr : ∀ w, F w w) (hk : ∀ a, (cs a).length = k) (h0 : 0 < k) {W : World} {A : Option Addr} {n c : Nat} {l : List α} (hF : ∀ w', F W w' → Below W.heap.size W w') (h : GRow cs k W A n c l) (d : α) (i : Nat) (hi : i < n) :
    ∃ b off, A = some ⟨b, off, none⟩ ∧ ∀ x j, j < k → (fut F W x).cell? ⟨b, off + i * k + j, none⟩ = (cs (l.getD i d))[j]? := by
  obtain ⟨b, off, hA, _⟩ := h.cells hk h0 d i hi
  refine ⟨b, off, hA, fun x j hj => ?_⟩
  obtain ⟨b2, off2, hA2, hc2⟩ := (h.later (hF _ (fut_ok hr W x))).cells hk h0 d i hi
  rw [hA] at hA2
  injection hA2 with hA2
  injection hA2 with e1 e2
  subst e1 e2
  exact hc2 j hj
theorem GRow.take (hk : ∀ a, (cs a).length = k) (h0 : 0 < k) {w : World} {A : Option Addr} {n c : Nat} {l : List α} (h : GRow cs k w A n c l) (i : Nat) (hi : i ≤ n) : GRow cs k w A i c (l.take i) := by
  have h1 := Row.take h i hi
  rw [rowC_take hk l i (by rw [GRow.len hk h0 h]; exact hi)] at h1
  exact h1
theorem GRow.drop (hk : ∀ a, (cs a).length = k) {w : World} {A : Option Addr} {n c : Nat} {l : List α} (h : GRow cs k w A n c l) (i : Nat) (hi : i ≤ n) : GRow cs k w (dropA A c i k) (n - i) (c - i) (l.drop i) := by
  have h1 := Row.drop h i hi
  rw [rowC_drop hk] at h1
  exact h1
theorem GRow.nil (w : World) : GRow cs k w none 0 0 [] := Row.nilRow _ _
end
end Go.Proofs.Ytdildmfjekdlgaa
/- Vouches: rows of them, their order, whether a number is in a list, whether two lists are the same. -/
namespace Go.Proofs.Ytdildmfjekdlgaa
open Go.RowKit
structure Vou where
  fr : Int
  tu : Int
  lv : Int
  nu : Int
  tm : Int
  en : Int
  rv : Int
def Vou.cells (p : Vou) : List Value := [.int .i64 p.fr, .int .i64 p.tu, .int .i64 p.lv, .int .i64 p.nu, .int .i64 p.tm, .int .i64 p.en, .int .i64 p.rv]
def Vou.arr (p : Vou) : Array Value := #[.int .i64 p.fr, .int .i64 p.tu, .int .i64 p.lv, .int .i64 p.nu, .int .i64 p.tm, .int .i64 p.en, .int .i64 p.rv]
theorem Vou.size (p : Vou) : p.arr.size = 7 := rfl
theorem Vou.len (p : Vou) : p.cells.length = 7 := rfl
theorem Vou.list (p : Vou) : p.arr.toList = p.cells := rfl
theorem Vou.one (p : Vou) : p.arr.all (·.oneCell') = true := by simp [Vou.arr, Value.oneCell']
theorem Vou.ones (p : Vou) : ∀ u ∈ p.cells, u.oneCell' = true := fun u hu => by
  have h := p.one
  rw [Array.all_eq_true_iff_forall_mem] at h
  exact h u (by rw [← Array.mem_toList_iff, p.list]; exact hu)
abbrev VRow (w : World) (A : Option Addr) (n c : Nat) (l : List Vou) : Prop := GRow Vou.cells 7 w A n c l
theorem VRow.len {w : World} {A : Option Addr} {n c : Nat} {l : List Vou} (h : VRow w A n c l) : l.length = n := GRow.len Vou.len (by decide) h
/-- Whether a number is among them. -/
def hasI : List Int → Int → Bool
  | [], _ => false
  | a :: l, x => if a = x then true else hasI l x
end Go.Proofs.Ytdildmfjekdlgaa
/- Walks of the reference's Same and revoked of layer 10. -/
namespace Go.Proofs.Ytdildmfjekdlgaa
open Go.RowKit
end Go.Proofs.Ytdildmfjekdlgaa
/- The walk of the reference's Gone. -/
namespace Go.Proofs.Ytdildmfjekdlgaa
open Go.RowKit
/-- A call that gives a list of numbers. -/
def GivesI (w : World) (l : List Int) (e : Ending) (w' : World) : Prop := ∃ A2 n2 c2, e = .returned (.slice A2 n2 c2) ∧ IRow w' A2 n2 c2 l ∧ Below w.heap.size w w'
end Go.Proofs.Ytdildmfjekdlgaa
/- The walk of the reference's Of of layer 10. -/
namespace Go.Proofs.Ytdildmfjekdlgaa
open Go.RowKit
end Go.Proofs.Ytdildmfjekdlgaa
/- The walk of the reference's put over any list. -/
namespace Go.Proofs.Ytdildmfjekdlgaa
open Go.RowKit
end Go.Proofs.Ytdildmfjekdlgaa
/- The reference's Copy and Seal of statements without lists: nil stays nil. -/
namespace Go.Proofs.Ytdildmfjekdlgaa
open Go.RowKit
end Go.Proofs.Ytdildmfjekdlgaa
/- The walk of the reference's put. -/
namespace Go.Proofs.Ytdildmfjekdlgaa
open Go.RowKit
end Go.Proofs.Ytdildmfjekdlgaa
/- The walk of the reference's Adds. -/
namespace Go.Proofs.Ytdildmfjekdlgaa
open Go.RowKit
end Go.Proofs.Ytdildmfjekdlgaa
/- The walk of the reference's Adds over any list. -/
namespace Go.Proofs.Ytdildmfjekdlgaa
open Go.RowKit
/-- A row whose first cell is no slice does not lie in a block of one slice. -/
theorem row_not_slice {w : World} {g : Nat} {A : Option Addr} {n c sz : Nat} {cs : List Value} {B : Option Addr} {m k : Nat} {T : TypeId} {fr : Nat × Nat} (h : Row w A n c sz cs) (hz : 0 < sz) (h0 : ∀ B m k, cs[0]? ≠ some (.slice B m k))
    (hg : w.heap[g]? = some (.cells #[.slice B m k] T fr)) : ∀ ad, A = some ad → 0 < n → ad.block ≠ g := fun ad hA hn he => by
  obtain ⟨b, off, hA', hc⟩ := Row.form h hn
  rw [hA] at hA'
  injection hA' with e
  subst e
  simp only at he
  subst he
  have h1 := hc 0 (Nat.mul_pos hn hz)
  rw [cell_of_row _ _ _ _ _ _ hg] at h1
  have h2 : 0 < cs.length := by rw [h.len]; exact Nat.mul_pos hn hz
  rw [List.getElem?_eq_getElem h2] at h1
  cases off with
  | zero => exact h0 B m k (by rw [List.getElem?_eq_getElem h2, ← h1]; rfl)
  | succ off => rw [Array.getElem?_eq_none (by simp)] at h1; cases h1
theorem ints_no (l : List Int) (B : Option Addr) (m k : Nat) : (intsV l)[0]? ≠ some (.slice B m k) := by
  cases l with
  | nil => intro h; cases h
  | cons a l => intro h; cases h
theorem pins_no (l : List PinD) (B : Option Addr) (m k : Nat) : (pinsC l)[0]? ≠ some (.slice B m k) := by
  cases l with
  | nil => intro h; cases h
  | cons a l => intro h; cases h
theorem plsC_no (l : List Pl) (B : Option Addr) (m k : Nat) : (plsC l)[0]? ≠ some (.slice B m k) := by
  cases l with
  | nil => intro h; cases h
  | cons a l => intro h; cases h
theorem LRow.set {w : World} {g : Nat} {A : Option Addr} {n c : Nat} {l : List Pl} {B : Option Addr} {m k : Nat} {T : TypeId} {fr : Nat × Nat} (h : LRow w A n c l) (hg : w.heap[g]? = some (.cells #[.slice B m k] T fr)) (new : Array Value) : LRow (w.setRow g new) A n c l :=
  ⟨Row.keep h.row fun ad hA hn _ => setRow_other _ _ _ _ (row_not_slice h.row (by decide) (plsC_no l) hg ad hA hn), fun p hp =>
    ⟨Row.keep (h.ok p hp).1 fun ad hA hn _ => setRow_other _ _ _ _ (row_not_slice (h.ok p hp).1 (by decide) (fun B m k => ints_no p.s.list B m k) hg ad hA hn),
     Row.keep (h.ok p hp).2 fun ad hA hn _ => setRow_other _ _ _ _ (row_not_slice (h.ok p hp).2 (by decide) (fun B m k => pins_no p.s.pins B m k) hg ad hA hn)⟩⟩
end Go.Proofs.Ytdildmfjekdlgaa
/- The walk of made.StoreOf over two statements. -/
namespace Go.Proofs.Ytdildmfjekdlgaa
open Go.RowKit
end Go.Proofs.Ytdildmfjekdlgaa
/- The walk of made.StoreOf over any list. -/
namespace Go.Proofs.Ytdildmfjekdlgaa
open Go.RowKit
end Go.Proofs.Ytdildmfjekdlgaa
/- The walk of the reference's SameList. -/
namespace Go.Proofs.Ytdildmfjekdlgaa
open Go.RowKit
/-- Two lists are the same, statement by statement. -/
def sameLB : List Stm → List Stm → Bool
  | [], [] => true
  | a :: l, b :: m => sameS a b && sameLB l m
  | _, _ => false
theorem sameLB_self : ∀ l : List Stm, sameLB l l = true
  | [] => rfl
  | a :: l => by unfold sameLB; rw [sameS_self, sameLB_self l]; rfl
end Go.Proofs.Ytdildmfjekdlgaa
/- The walk of the reference's Next over any list. -/
namespace Go.Proofs.Ytdildmfjekdlgaa
open Go.RowKit
def lastL (l : List Stm) : Stm := l.getD (l.length - 1) noStm
/-- What would come next in a chain. -/
def draftR (au : Int) (l : List Stm) (s : Stm) : Stm := if l.length = 0 then { s with author := au, number := 0, prev := ⟨#[]⟩ } else { s with author := au, number := (l.length : Int), prev := digS (lastL l) }
/-- What the reference's Next returns. -/
noncomputable def nextP (au : Int) (l : List Stm) (s : Stm) : Stm × Int :=
  if l.length ≠ 0 ∧ sameLB (countedR au l) l = false then (noStm, 1)
  else if l.length ≠ 0 ∧ s.time < (lastL l).time then (noStm, 9)
  else if l.length ≠ 0 ∧ (lastL l).kind = 3 then (noStm, 5)
  else if checkV (sealOf (draftR au l s)) = 0 then (sealOf (draftR au l s), 0) else (noStm, checkV (sealOf (draftR au l s)))
/-- Its lists lie in neither of the call's two blocks. -/
def Off (w : World) (p : Pl) : Prop := (∀ ad, p.A = some ad → 0 < p.n → ad.block ≠ w.heap.size ∧ ad.block ≠ w.heap.size + 1) ∧ (∀ ad, p.B = some ad → 0 < p.m → ad.block ≠ w.heap.size ∧ ad.block ≠ w.heap.size + 1)
theorem PlOk.off {w : World} {p : Pl} (h : PlOk w p) : Off w p := ⟨fun ad hA h0 => by have := Row.lt h.1 (by decide) ad hA h0; omega, fun ad hA h0 => by have := Row.lt h.2 (by decide) ad hA h0; omega⟩
theorem Off.new {w x : World} {q : Pl} (h : w.heap.size + 1 < x.heap.size) (hA : ∀ ad, q.A = some ad → x.heap.size ≤ ad.block) (hB : ∀ ad, q.B = some ad → x.heap.size ≤ ad.block) : Off w q := ⟨fun ad e _ => by have := hA ad e; omega, fun ad e _ => by have := hB ad e; omega⟩
theorem PlOk.but {w x y : World} {p : Pl} (h : PlOk x p) (ho : Off w p) (hk : ∀ k, k ≠ w.heap.size → k ≠ w.heap.size + 1 → y.heap[k]? = x.heap[k]?) : PlOk y p :=
  ⟨Row.keep h.1 fun ad hA h0 _ => hk _ (ho.1 ad hA h0).1 (ho.1 ad hA h0).2, Row.keep h.2 fun ad hA h0 _ => hk _ (ho.2 ad hA h0).1 (ho.2 ad hA h0).2⟩
/-- A call that gives a statement in blocks of its own, and a number. -/
def GivesX (w : World) (s : Stm) (v : Int) (e : Ending) (w' : World) : Prop := ∃ q : Pl, e = .returned (.tuple #[.agg q.arr, .int .i64 v]) ∧ q.s = s ∧ PlOk w' q ∧ (∀ ad, q.A = some ad → w.heap.size ≤ ad.block) ∧ (∀ ad, q.B = some ad → w.heap.size ≤ ad.block) ∧ Below w.heap.size w w'
theorem GivesX.no {w w' : World} {v : Int} (hb : Below w.heap.size w w') : GivesX w noStm v (.returned (.tuple #[.agg #[.int .i64 0, .int .i64 0, .string ⟨#[]⟩, .int .i64 0, .int .i64 0, .int .i64 0, .int .i64 0, .int .i64 0, .slice none 0 0, .slice none 0 0, .string ⟨#[]⟩, .int .i64 0, .string ⟨#[]⟩], .int .i64 v])) w' := ⟨noPl, rfl, rfl, noPl_ok _, fun _ h => (nomatch h), fun _ h => (nomatch h), hb⟩
end Go.Proofs.Ytdildmfjekdlgaa
/- The walk of the dice's Of. -/
namespace Go.Proofs.Ytdildmfjekdlgaa
open Go.RowKit
set_option maxHeartbeats 1000000 in
theorem diceOf_any (L D : Nat) (t : List Int) (k : Nat) (A : Option Addr) (n c : Nat) (l : List Int) (w : World) (h : DiceAt w L D t k) (hl : Row w A n c 1 (intsV l)) (hs : ∀ ad, A = some ad → ad.block ≠ D) (h0 : 1 ≤ n) (hn : n ≤ 1000) :
    Calls Try.prog 17 #[.pointer (some ⟨D, 0, none⟩), .slice A n c] w fun e w' => e = .returned (.int .i64 (l.getD (diceV t k n).toNat 0)) ∧ DiceAt w' L D t (diceK t k) ∧ But D w w' := by
  have H := Lib.hid h; have HL := Lib.hid hl; have HS := Lib.hid hs; have hll := hl.len; rw [intsV_len, Nat.mul_one] at hll; have HLL := Lib.hid hll; clear h hl hs hll
  have hv := diceV_bd t k n (by omega)
  go_enter Try.func17, Try.ntmps17
  go_wp2_with fail
  refine (next_any L D t k n w H.out (by omega) (by omega)).mono ?_
  rintro e w1 ⟨rfl, hd, hb⟩
  obtain ⟨b, off, hA, hcell⟩ := (HL.out.but hb (fun ad hA _ => HS.out ad hA)).form (by omega)
  generalize hgv : diceV t k n = v at hv ⊢
  have hx := hcell v.toNat (by omega)
  rw [intsV_get _ _ (by rw [HLL.out]; omega)] at hx
  unfold iv at hx
  subst hA
  have HD := Lib.hid hd; have HB := Lib.hid hb; have HG := Lib.hid hgv; clear hd hb hcell hgv
  generalize hgx : l.getD v.toNat 0 = x at hx
  have HX := Lib.hid hgx; clear hgx
  go_wp2
  go_ret
  exact ⟨by rw [HG.out, HX.out]; rfl, HD.out, HB.out⟩
end Go.Proofs.Ytdildmfjekdlgaa
/- The walks of trustflowmade's dice: Bytes; and what Some answers. -/
namespace Go.Proofs.Ytdildmfjekdlgaa
open Go.RowKit
/-- Some of the numbers below n. -/
def diceSs (t : List Int) : Nat → Nat → List Int × Nat
  | 0, k => ([], k)
  | j + 1, k => (if diceV t (diceSs t j k).2 3 = 0 then (diceSs t j k).1 ++ [(j : Int)] else (diceSs t j k).1, diceK t (diceSs t j k).2)
theorem diceSs_len (t : List Int) (j k : Nat) : (diceSs t j k).1.length ≤ j := by
  induction j with
  | zero => exact Nat.le_refl _
  | succ j ih =>
    simp only [diceSs]
    split
    · rw [List.length_append]; simp; omega
    · omega
end Go.Proofs.Ytdildmfjekdlgaa
/- The walks of the dice's One and Digest. -/
namespace Go.Proofs.Ytdildmfjekdlgaa
open Go.RowKit
/-- The dice are still there, more of their numbers given out perhaps, and nothing else has turned. -/
def Gave (L D : Nat) (t : List Int) (w w' : World) : Prop := (∃ k, DiceAt w' L D t k) ∧ But D w w'
theorem next_g (L D : Nat) (t : List Int) (m : Int) (w : World) (h : ∃ k, DiceAt w L D t k) (hm : 1 ≤ m) (hm2 : m ≤ 1000000) :
    Calls Try.prog 16 #[.pointer (some ⟨D, 0, none⟩), .int .i64 m] w fun e w' => ∃ v, e = .returned (.int .i64 v) ∧ 0 ≤ v ∧ v < m ∧ Gave L D t w w' := by
  obtain ⟨k, h⟩ := h
  refine (next_any L D t k m w h hm hm2).mono ?_
  rintro e w' ⟨rfl, hd, hb⟩
  exact ⟨_, rfl, (diceV_bd t k m hm).1, (diceV_bd t k m hm).2, ⟨_, hd⟩, hb⟩
theorem of_g (L D : Nat) (t : List Int) (A : Option Addr) (n c : Nat) (l : List Int) (w : World) (h : ∃ k, DiceAt w L D t k) (hl : Row w A n c 1 (intsV l)) (hs : ∀ ad, A = some ad → ad.block ≠ D) (h0 : 1 ≤ n) (hn : n ≤ 1000) :
    Calls Try.prog 17 #[.pointer (some ⟨D, 0, none⟩), .slice A n c] w fun e w' => ∃ v, e = .returned (.int .i64 v) ∧ v ∈ l ∧ Gave L D t w w' := by
  obtain ⟨k, h⟩ := h
  have hlen := hl.len
  rw [intsV_len, Nat.mul_one] at hlen
  have hv := diceV_bd t k n (by omega)
  refine (diceOf_any L D t k A n c l w h hl hs h0 hn).mono ?_
  rintro e w' ⟨rfl, hd, hb⟩
  refine ⟨_, rfl, ?_, ⟨_, hd⟩, hb⟩
  rw [List.getD_eq_getElem?_getD, List.getElem?_eq_getElem (by omega)]
  exact List.getElem_mem _
theorem one_g (L D : Nat) (t : List Int) (m : Int) (w : World) (h : ∃ k, DiceAt w L D t k) (hm : 1 ≤ m) (hm2 : m ≤ 1000) :
    Calls Try.prog 25 #[.pointer (some ⟨D, 0, none⟩), .int .i64 m] w fun e w' => ∃ b : Bool, e = .returned (.bool b) ∧ Gave L D t w w' := by
  go_enter Try.func25, Try.ntmps25
  go_wp2_with fail
  refine (next_g L D t m w h hm (by omega)).mono ?_
  rintro e w1 ⟨v, rfl, _, _, hg⟩
  have HG := Lib.hid hg; clear hg
  go_wp2
  go_ret
  exact ⟨_, rfl, HG.out⟩
end Go.Proofs.Ytdildmfjekdlgaa
/- The walk of the dice's Statement. -/
namespace Go.Proofs.Ytdildmfjekdlgaa
open Go.RowKit
/-- A slice's block lies above another one. -/
def Up (S : Nat) (x : World) (A : Option Addr) : Prop := ∀ ad, A = some ad → S < ad.block ∧ ad.block < x.heap.size
theorem Up.mono {S : Nat} {x y : World} {A : Option Addr} (h : Up S x A) (hs : x.heap.size ≤ y.heap.size) : Up S y A := fun ad e => ⟨(h ad e).1, Nat.lt_of_lt_of_le (h ad e).2 hs⟩
section
variable {L D : Nat} {t : List Int} {w x y : World} {S : Nat} {cs : Array Value} {A : Option Addr} {n c : Nat} {l : List Int} {B : Option Addr} {m k : Nat} {ps : List PinD}
end
end Go.Proofs.Ytdildmfjekdlgaa
/- The walk of the dice's Chain. -/
namespace Go.Proofs.Ytdildmfjekdlgaa
open Go.RowKit
/-- Its lists lie in blocks from B on. -/
def Hi (B : Nat) (p : Pl) : Prop := (∀ ad, p.A = some ad → B ≤ ad.block) ∧ (∀ ad, p.B = some ad → B ≤ ad.block)
theorem Hi.mono {B C : Nat} {p : Pl} (h : Hi B p) (hc : C ≤ B) : Hi C p := ⟨fun ad e => Nat.le_trans hc (h.1 ad e), fun ad e => Nat.le_trans hc (h.2 ad e)⟩
/-- Within a round: the dice are there, and nothing else that was there has turned. -/
structure Rnd (L D : Nat) (t : List Int) (w x : World) : Prop where
  but : But D w x
  dice : ∃ k, DiceAt x L D t k
theorem Rnd.later {L D : Nat} {t : List Int} {w x y : World} (h : Rnd L D t w x) (hb : Later x y) : Rnd L D t w y := ⟨h.but.trans (But.of hb), by obtain ⟨k, hk⟩ := h.dice; exact ⟨k, hk.later hb⟩⟩
theorem Rnd.gave {L D : Nat} {t : List Int} {w x y : World} (h : Rnd L D t w x) (hg : Gave L D t x y) : Rnd L D t w y := ⟨h.but.trans hg.2, hg.1⟩
theorem Rnd.lt {L D : Nat} {t : List Int} {w x : World} (h : Rnd L D t w x) : D < x.heap.size := by obtain ⟨k, hk⟩ := h.dice; exact hk.lt
theorem Rnd.row {L D : Nat} {t : List Int} {w x : World} (h : Rnd L D t w x) (g : Nat) (hg : w.heap.size ≤ g) (hD : D < w.heap.size) (cs : Array Value) : Rnd L D t w (x.setRow g cs) := by
  obtain ⟨k, hk⟩ := h.dice
  exact ⟨⟨h.but.os, h.but.tape, h.but.output, by rw [setRow_size]; exact h.but.size, fun i hi hne => (setRow_other x g i cs (by omega)).trans (h.but.block i hi hne)⟩, k, hk.but (But.of_row _ _ _) (by omega) (by have := hk.low; omega)⟩
/-- Their times lie from 0 to b. -/
def TimL (b : Int) (l : List Pl) : Prop := ∀ p ∈ l, 0 ≤ p.s.time ∧ p.s.time ≤ b
theorem TimL.mono {b c : Int} {l : List Pl} (h : TimL b l) (hc : b ≤ c) : TimL c l := fun p hp => ⟨(h p hp).1, by have := (h p hp).2; omega⟩
theorem TimL.app {b : Int} {l m : List Pl} (h : TimL b l) (k : TimL b m) : TimL b (l ++ m) := fun p hp => by
  rcases List.mem_append.1 hp with hp | hp
  · exact h p hp
  · exact k p hp
theorem TimL.one {b : Int} {p : Pl} (h : 0 ≤ p.s.time ∧ p.s.time ≤ b) : TimL b [p] := fun q hq => by rw [List.mem_singleton.1 hq]; exact h
end Go.Proofs.Ytdildmfjekdlgaa
/- In the midst of the dice's Spoil: a statement in a block of its own, beside a list. -/
namespace Go.Proofs.Ytdildmfjekdlgaa
open Go.RowKit
/-- A statement with the same lists. -/
def Pl.to (p : Pl) (s : Stm) : Pl := ⟨s, p.A, p.n, p.c, p.B, p.m, p.k⟩
/-- Its lists do not lie in block g. -/
def OffB (g : Nat) (p : Pl) : Prop := (∀ ad, p.A = some ad → 0 < p.n → ad.block ≠ g) ∧ (∀ ad, p.B = some ad → 0 < p.m → ad.block ≠ g)
theorem PlOk.turn {x y : World} {p : Pl} {g : Nat} (h : PlOk x p) (ho : OffB g p) (hb : But g x y) : PlOk y p := ⟨Row.but h.1 hb fun ad hA h0 => ho.1 ad hA h0, Row.but h.2 hb fun ad hA h0 => ho.2 ad hA h0⟩
theorem Rnd.turn {L D : Nat} {t : List Int} {w x y : World} (h : Rnd L D t w x) {g : Nat} (hg : w.heap.size ≤ g) (hD : D < w.heap.size) (hb : But g x y) : Rnd L D t w y := by
  obtain ⟨k, hk⟩ := h.dice
  exact ⟨⟨hb.os.trans h.but.os, hb.tape.trans h.but.tape, hb.output.trans h.but.output, Nat.le_trans h.but.size hb.size, fun i hi hne => (hb.block i (Nat.lt_of_lt_of_le hi h.but.size) (by omega)).trans (h.but.block i hi hne)⟩, k, hk.but hb (by omega) (by have := hk.low; omega)⟩
theorem own_keepL {w w' : World} {B : Nat} {e : TypeId} {sz : Nat} {v : Value} {n : Nat} {xs : List Value} (h : w.ownsRow B e sz v n xs) (hk : ∀ g, v.ownBlock = some g → w'.heap[g]? = w.heap[g]?) : w'.ownsRow B e sz v n xs := by
  refine ⟨h.1, ?_⟩
  rcases h.2 with hn | ⟨g, cap, cur, rfl, hg, hgg, rest⟩
  · exact .inl hn
  · exact .inr ⟨g, cap, cur, rfl, hg, (hk g rfl).trans hgg, rest⟩
section
variable {L D : Nat} {t : List Int} {wr x y : World} {g : Nat} {p : Pl}
/-- Time and kind stay. -/
def FC (g : Nat) (a b : World) : Prop := b.cell? ⟨g, 3, none⟩ = a.cell? ⟨g, 3, none⟩ ∧ b.cell? ⟨g, 4, none⟩ = a.cell? ⟨g, 4, none⟩
theorem FC.refl (a : World) : FC g a a := ⟨rfl, rfl⟩
theorem FC.trans {a b c : World} (h : FC g a b) (k : FC g b c) : FC g a c := ⟨k.1.trans h.1, k.2.trans h.2⟩
end
end Go.Proofs.Ytdildmfjekdlgaa
/- The walk of the reference's Active. -/
namespace Go.Proofs.Ytdildmfjekdlgaa
open Go.RowKit
theorem own_later {w w' : World} {B : Nat} {e : TypeId} {sz : Nat} {v : Value} {n : Nat} {xs : List Value} (h : w.ownsRow B e sz v n xs) (hb : Below w.heap.size w w') : w'.ownsRow B e sz v n xs := own_keepL h fun _ hg => hb.block _ (own_lt h _ hg)
end Go.Proofs.Ytdildmfjekdlgaa
/- Graphs: rows of edges; Has and Set of the reference. -/
namespace Go.Proofs.Ytdildmfjekdlgaa
open Go.RowKit
structure Edg where
  fr : Int
  tu : Int
  lv : Int
def Edg.cells (p : Edg) : List Value := [.int .i64 p.fr, .int .i64 p.tu, .int .i64 p.lv]
def Edg.arr (p : Edg) : Array Value := #[.int .i64 p.fr, .int .i64 p.tu, .int .i64 p.lv]
def noEdg : Edg := ⟨0, 0, 0⟩
theorem Edg.size (p : Edg) : p.arr.size = 3 := rfl
theorem Edg.len (p : Edg) : p.cells.length = 3 := rfl
theorem Edg.list (p : Edg) : p.arr.toList = p.cells := rfl
theorem Edg.one (p : Edg) : p.arr.all (·.oneCell') = true := by simp [Edg.arr, Value.oneCell']
theorem Edg.ones (p : Edg) : ∀ u ∈ p.cells, u.oneCell' = true := fun u hu => by
  have h := p.one
  rw [Array.all_eq_true_iff_forall_mem] at h
  exact h u (by rw [← Array.mem_toList_iff, p.list]; exact hu)
theorem Edg.info (p : Edg) : (Try.prog.info? 45).map (·.size) = some p.arr.size := by rw [p.size]; kernel_rfl
abbrev ERow (w : World) (A : Option Addr) (n c : Nat) (l : List Edg) : Prop := GRow Edg.cells 3 w A n c l
theorem ERow.len {w : World} {A : Option Addr} {n c : Nat} {l : List Edg} (h : ERow w A n c l) : l.length = n := GRow.len Edg.len (by decide) h
/-- Whether a number of a list may stand where it does. -/
def okSet (l : List Int) (n : Int) (i : Nat) : Bool := decide (0 ≤ l.getD i 0) && (decide (l.getD i 0 < n) && (decide (i = 0) || decide (l.getD (i - 1) 0 < l.getD i 0)))
def setB (l : List Int) (n : Int) : Bool := (List.range l.length).all (okSet l n)
theorem setB_no {l : List Int} {n : Int} {i : Nat} (hi : i < l.length) (h : okSet l n i = false) : setB l n = false := by
  unfold setB
  rw [List.all_eq_false]
  exact ⟨i, List.mem_range.2 hi, by rw [h]; decide⟩
theorem setB_yes {l : List Int} {n : Int} (h : ∀ i, i < l.length → okSet l n i = true) : setB l n = true := by
  unfold setB
  rw [List.all_eq_true]
  exact fun i hi => h i (List.mem_range.1 hi)
theorem irow_fut {W : World} {b off n c : Nat} {l : List Int} (h : IRow W (some ⟨b, off, none⟩) n c l) (i : Nat) (hi : i < n) (y : World) : (fut Later W y).cell? ⟨b, off + i, none⟩ = some (.int .i64 (l.getD i 0)) := by
  obtain ⟨b2, off2, hA, hc⟩ := IRow.cell (h.later (fut_ok Later.refl W y)) i hi
  injection hA with hA
  injection hA with h1 h2
  subst h1 h2
  exact hc
set_option maxRecDepth 100000 in
set_option maxHeartbeats 4000000 in
theorem has_any11 (A : Option Addr) (n c : Nat) (l : List Int) (x : Int) (w : World) (hl : IRow w A n c l) (hn : n ≤ 100000) : Calls Try.prog 22 #[.slice A n c, .int .i64 x] w (SaysL (.bool (hasI l x)) w) := by
  have HL := Lib.hid hl; have HLN : Hid (l.length = n) := Lib.hid hl.len
  clear hl
  go_enter Try.func22, Try.ntmps22
  go_wp2_with fail
  go_loopw [5] (fun i wr => ∃ j : Nat, j ≤ n ∧ i = .int .i64 j ∧ Hid (hasI (l.drop j) x = hasI l x ∧ Below w.heap.size w wr)) (fun i _ => n - (intOf i).toNat)
  case atStart => exact ⟨0, Nat.zero_le _, rfl, Lib.hid ⟨rfl, Below.refl _ _⟩⟩
  case round =>
    obtain ⟨j, hj, rfl, HQ⟩ := hrel
    by_cases hlt : j < n
    · have hlt2 : (j : Int) < (n : Int) := by omega
      obtain ⟨b, off, hA, hc⟩ := IRow.cell (HL.out.later HQ.out.2) j hlt
      subst hA
      have HD : Hid (hasI (l.drop j) x = if l.getD j 0 = x then true else hasI (l.drop (j + 1)) x) := Lib.hid (by
        rw [List.drop_eq_getElem_cons (by rw [HLN.out]; exact hlt), hasI, List.getD_eq_getElem?_getD, List.getElem?_eq_getElem (by rw [HLN.out]; exact hlt)]; rfl)
      generalize l.getD j 0 = a at *
      by_cases hax : a = x
      · have b0 : (a == x) = true := by rw [hax]; simp
        have HT : Hid (hasI l x = true) := Lib.hid (by rw [← HQ.out.1, HD.out, if_pos hax])
        clear hax
        go_wp2_with fail
        go_ret
        exact ⟨by rw [HT.out]; rfl, HQ.out.2⟩
      · have b0 : (a == x) = false := by rw [beq_eq_false_iff_ne]; exact hax
        have HT : Hid (hasI (l.drop (j + 1)) x = hasI l x) := Lib.hid (by rw [← HQ.out.1, HD.out, if_neg hax])
        clear hax
        go_wp2_with fail
        exact ⟨⟨j + 1, hlt, by go_num, Lib.hid ⟨HT.out, HQ.out.2⟩⟩, by simp [intOf]; omega⟩
    · have hlt2 : ¬ (j : Int) < (n : Int) := by omega
      have HT : Hid (hasI l x = false) := Lib.hid (by rw [← HQ.out.1, List.drop_eq_nil_of_le (by rw [HLN.out]; omega)]; rfl)
      go_wp2_with fail
      go_ret
      exact ⟨by rw [HT.out]; rfl, HQ.out.2⟩
set_option maxRecDepth 100000 in
set_option maxHeartbeats 4000000 in
theorem set_any11 (A : Option Addr) (n c : Nat) (l : List Int) (x : Int) (w : World) (hl : IRow w A n c l) (hn : n ≤ 100000) : Calls Try.prog 47 #[.slice A n c, .int .i64 x] w (SaysL (.bool (setB l x)) w) := by
  have HL := Lib.hid hl; have HLN : Hid (l.length = n) := Lib.hid hl.len
  clear hl
  go_enter Try.func47, Try.ntmps47
  go_wp2_with fail
  go_loopw [5] (fun i wr => ∃ j : Nat, j ≤ n ∧ i = .int .i64 j ∧ Hid ((∀ k, k < j → okSet l x k = true) ∧ Below w.heap.size w wr)) (fun i _ => n - (intOf i).toNat)
  case atStart => exact ⟨0, Nat.zero_le _, rfl, Lib.hid ⟨fun k h => absurd h (Nat.not_lt_zero _), Below.refl _ _⟩⟩
  case round =>
    obtain ⟨j, hj, rfl, HQ⟩ := hrel
    by_cases hlt : j < n
    · have hlt2 : (j : Int) < (n : Int) := by omega
      obtain ⟨b, off, hA, hc⟩ := IRow.cell (HL.out.later HQ.out.2) j hlt
      subst hA
      clear hc
      go_wp2_with fail
      refine wp_region_grow (by kernel_rfl) Later Later.refl (fun _ _ _ => Later.trans) [0, 1, 2, 3, 4, 5, 6, 7, 8, 9, 10, 11, 12, 13, 14, 15, 16, 17, 18, 19, 20, 21, 22, 23, 24, 25, 26, 27, 28] [] (by kernel_rfl) (by kernel_rfl) (by kernel_rfl) ?_
      simp only [List.map_cons, List.map_nil, pick, List.getD_cons_zero, List.getD_cons_succ]
      have HB7 : Hid (Below w.heap.size w wr.drew) := Lib.hid HQ.out.2.drew
      have HK := Lib.hid HQ.out.1
      have HL7 := Lib.hid (IRow.later (HL.out) (show Later w wr.drew from HQ.out.2.drew))
      clear HQ
      generalize wr.drew = z0 at *
      have hf0 := irow_fut HL7.out j hlt
      have HOK : Hid (okSet l x j = (decide (0 ≤ l.getD j 0) && (decide (l.getD j 0 < x) && (decide (j = 0) || decide (l.getD (j - 1) 0 < l.getD j 0))))) := Lib.hid rfl
      by_cases hj0 : 0 < j
      · have hf1 := irow_fut HL7.out (j - 1) (by omega)
        have d0 : decide ((j : Int) > 0) = true := decide_eq_true (by omega)
        have d1 : (0 : Int) < (j : Int) := by omega
        have e0 : (0 : Int) ≤ (j : Int) - 1 := by omega
        have e1 : (j : Int) - 1 < (n : Int) := by omega
        have e2 : ((j : Int) - 1).toNat = j - 1 := by omega
        generalize l.getD j 0 = a at *
        generalize l.getD (j - 1) 0 = a0 at *
        by_cases ha : a < 0
        · have b0 : decide (a < 0) = true := decide_eq_true ha
          have HT : Hid (setB l x = false) := Lib.hid (setB_no (by rw [HLN.out]; exact hlt) (by rw [HOK.out, decide_eq_false (by omega), Bool.false_and]))
          clear ha
          refine wpGrow_nil ?_
          repeat (go_big_quiet_step (fail))
          refine wpQuiet_nil ?_
          clear hf0 hf1
          go_wp2_with fail
          go_ret
          exact ⟨by rw [HT.out]; rfl, HB7.out⟩
        · have b0 : decide (a < 0) = false := decide_eq_false ha
          by_cases hx : x ≤ a
          · have b1 : decide (a ≥ x) = true := decide_eq_true hx
            have b2 : decide (x ≤ a) = true := decide_eq_true hx
            have HT : Hid (setB l x = false) := Lib.hid (setB_no (by rw [HLN.out]; exact hlt) (by rw [HOK.out, decide_eq_false (by omega : ¬ a < x), Bool.false_and, Bool.and_false]))
            clear ha hx
            refine wpGrow_nil ?_
            repeat (go_big_quiet_step (fail))
            refine wpQuiet_nil ?_
            clear hf0 hf1
            go_wp2_with fail
            go_ret
            exact ⟨by rw [HT.out]; rfl, HB7.out⟩
          · have b1 : decide (a ≥ x) = false := decide_eq_false hx
            have b2 : decide (x ≤ a) = false := decide_eq_false hx
            by_cases hy : a ≤ a0
            · have b3 : decide (a ≤ a0) = true := decide_eq_true hy
              have HT : Hid (setB l x = false) := Lib.hid (setB_no (by rw [HLN.out]; exact hlt) (by rw [HOK.out, decide_eq_false (by omega : ¬ j = 0), decide_eq_false (by omega : ¬ a0 < a), Bool.false_or, Bool.and_false, Bool.and_false]))
              clear ha hx hy
              refine wpGrow_nil ?_
              repeat (go_big_quiet_step (fail))
              refine wpQuiet_nil ?_
              clear hf0 hf1
              go_wp2_with fail
              go_ret
              exact ⟨by rw [HT.out]; rfl, HB7.out⟩
            · have b3 : decide (a ≤ a0) = false := decide_eq_false hy
              have HT : Hid (okSet l x j = true) := Lib.hid (by rw [HOK.out, decide_eq_true (by omega : 0 ≤ a), decide_eq_true (by omega : a < x), decide_eq_true (by omega : a0 < a), Bool.or_true]; rfl)
              clear ha hx hy
              refine wpGrow_nil ?_
              repeat (go_big_quiet_step (fail))
              refine wpQuiet_nil ?_
              clear hf0 hf1
              go_wp2_with fail
              exact ⟨⟨j + 1, hlt, by go_num, Lib.hid ⟨fun k hk => (by by_cases hkj : k = j; · rw [hkj]; exact HT.out
                                                                      · exact HK.out k (by omega)), HB7.out⟩⟩, by simp [intOf]; omega⟩
      · have d0 : decide ((j : Int) > 0) = false := decide_eq_false (by omega)
        have d1 : ¬ (0 : Int) < (j : Int) := by omega
        have d2 : decide ((0 : Int) < (j : Int)) = false := decide_eq_false (by omega)
        have HZ : Hid (¬ 0 < j) := Lib.hid hj0
        generalize l.getD j 0 = a at *
        by_cases ha : a < 0
        · have b0 : decide (a < 0) = true := decide_eq_true ha
          have HT : Hid (setB l x = false) := Lib.hid (setB_no (by rw [HLN.out]; exact hlt) (by rw [HOK.out, decide_eq_false (by omega), Bool.false_and]))
          clear ha
          refine wpGrow_nil ?_
          repeat (go_big_quiet_step (fail))
          refine wpQuiet_nil ?_
          clear hf0
          go_wp2_with fail
          go_ret
          exact ⟨by rw [HT.out]; rfl, HB7.out⟩
        · have b0 : decide (a < 0) = false := decide_eq_false ha
          by_cases hx : x ≤ a
          · have b1 : decide (a ≥ x) = true := decide_eq_true hx
            have b2 : decide (x ≤ a) = true := decide_eq_true hx
            have HT : Hid (setB l x = false) := Lib.hid (setB_no (by rw [HLN.out]; exact hlt) (by rw [HOK.out, decide_eq_false (by omega : ¬ a < x), Bool.false_and, Bool.and_false]))
            clear ha hx
            refine wpGrow_nil ?_
            repeat (go_big_quiet_step (fail))
            refine wpQuiet_nil ?_
            clear hf0
            go_wp2_with fail
            go_ret
            exact ⟨by rw [HT.out]; rfl, HB7.out⟩
          · have b1 : decide (a ≥ x) = false := decide_eq_false hx
            have b2 : decide (x ≤ a) = false := decide_eq_false hx
            have HT : Hid (okSet l x j = true) := Lib.hid (by rw [HOK.out, decide_eq_true (by omega : 0 ≤ a), decide_eq_true (by omega : a < x), decide_eq_true (by omega : j = 0), Bool.true_or]; rfl)
            clear ha hx
            refine wpGrow_nil ?_
            repeat (go_big_quiet_step (fail))
            refine wpQuiet_nil ?_
            clear hf0
            go_wp2_with fail
            exact ⟨⟨j + 1, hlt, by go_num, Lib.hid ⟨fun k hk => (by by_cases hkj : k = j; · rw [hkj]; exact HT.out
                                                                    · exact HK.out k (by omega)), HB7.out⟩⟩, by simp [intOf]; omega⟩
    · have hlt2 : ¬ (j : Int) < (n : Int) := by omega
      have HT : Hid (setB l x = true) := Lib.hid (setB_yes fun i hi => HQ.out.1 i (by have := HLN.out; omega))
      go_wp2_with fail
      go_ret
      exact ⟨by rw [HT.out]; rfl, HQ.out.2⟩
end Go.Proofs.Ytdildmfjekdlgaa
/- Graphs: the walk of the reference's before. -/
namespace Go.Proofs.Ytdildmfjekdlgaa
open Go.RowKit
/-- The order of edges. -/
def befE (a b : Edg) : Bool := if a.fr < b.fr then true else if a.fr = b.fr then decide (a.tu < b.tu) else false
set_option maxRecDepth 100000 in
set_option maxHeartbeats 4000000 in
theorem before_any11 (p q : Edg) (w : World) : Calls Try.prog 48 #[.agg p.arr, .agg q.arr] w (SaysL (.bool (befE p q)) w) := by
  have HV : Hid (befE p q = if p.fr < q.fr then true else if p.fr = q.fr then decide (p.tu < q.tu) else false) := Lib.hid rfl
  generalize befE p q = bb at HV ⊢
  have HCX : Hid (((w.alloc (.cells p.arr 45)).alloc (.cells q.arr 45)).heap[w.heap.size]? = some (.cells p.arr 45 (0, 0))) := Lib.hid ((Below.heap_alloc _ _ _ (by simp)).trans (heap_alloc_new _ _))
  have HDX : Hid (((w.alloc (.cells p.arr 45)).alloc (.cells q.arr 45)).heap[w.heap.size + 1]? = some (.cells q.arr 45 (0, 0))) := Lib.hid (heap_alloc2_new _ _ _)
  have HB : Hid (Below w.heap.size w ((w.alloc (.cells p.arr 45)).alloc (.cells q.arr 45))) := Lib.hid ((one_new w _).trans ((one_new _ _).mono (by simp)))
  go_enter Try.func48, Try.ntmps48
  have hc0 : ((w.alloc (.cells p.arr 45)).alloc (.cells q.arr 45)).cell? ⟨w.heap.size, 0, none⟩ = some (.int .i64 p.fr) := (cell_of_row _ _ 0 _ _ _ HCX.out).trans rfl
  have hc1 : ((w.alloc (.cells p.arr 45)).alloc (.cells q.arr 45)).cell? ⟨w.heap.size, 1, none⟩ = some (.int .i64 p.tu) := (cell_of_row _ _ 1 _ _ _ HCX.out).trans rfl
  have hd0 : ((w.alloc (.cells p.arr 45)).alloc (.cells q.arr 45)).cell? ⟨w.heap.size + 1, 0, none⟩ = some (.int .i64 q.fr) := (cell_of_row _ _ 0 _ _ _ HDX.out).trans rfl
  have hd1 : ((w.alloc (.cells p.arr 45)).alloc (.cells q.arr 45)).cell? ⟨w.heap.size + 1, 1, none⟩ = some (.int .i64 q.tu) := (cell_of_row _ _ 1 _ _ _ HDX.out).trans rfl
  clear HCX HDX
  by_cases e0 : p.fr < q.fr
  · have b0 : decide (p.fr < q.fr) = true := decide_eq_true e0
    rw [if_pos e0] at HV
    clear e0
    go_wp2_with fail
    go_ret
    exact ⟨by rw [HV.out]; first | done | rfl, HB.out⟩
  · have b0 : decide (p.fr < q.fr) = false := decide_eq_false e0
    rw [if_neg e0] at HV
    clear e0
    by_cases e1 : p.fr = q.fr
    · have b1 : (p.fr == q.fr) = true := by rw [e1]; simp
      rw [if_pos e1] at HV
      clear e1
      go_wp2_with fail
      go_ret
      exact ⟨by rw [HV.out]; first | done | rfl, HB.out⟩
    · have b1 : (p.fr == q.fr) = false := by rw [beq_eq_false_iff_ne]; exact e1
      rw [if_neg e1] at HV
      clear e1
      go_wp2_with fail
      go_ret
      exact ⟨by rw [HV.out]; first | done | rfl, HB.out⟩
end Go.Proofs.Ytdildmfjekdlgaa
/- Graphs: the walks of the reference's Out and In. -/
namespace Go.Proofs.Ytdildmfjekdlgaa
open Go.RowKit
/-- The neighbours of a key: where its edges lead, where edges to it come from. -/
def outS (l : List Edg) (key : Int) : List Int := l.flatMap fun e => if e.fr = key then [e.tu] else []
theorem outS_snoc (l : List Edg) (key : Int) (i : Nat) (h : i < l.length) : outS (l.take (i + 1)) key = outS (l.take i) key ++ (if (l.getD i noEdg).fr = key then [(l.getD i noEdg).tu] else []) := by
  unfold outS
  rw [List.take_add_one, List.getElem?_eq_getElem h, List.flatMap_append, List.getD_eq_getElem?_getD, List.getElem?_eq_getElem h]
  simp
theorem outS_len (l : List Edg) (key : Int) (i : Nat) (h : i ≤ l.length) : (outS (l.take i) key).length ≤ i := by
  induction i with
  | zero => simp [outS]
  | succ i ih =>
    rw [outS_snoc l key i (by omega), List.length_append]
    have := ih (by omega)
    split <;> simp <;> omega
end Go.Proofs.Ytdildmfjekdlgaa
/- Graphs: the walk of the reference's Same. -/
namespace Go.Proofs.Ytdildmfjekdlgaa
open Go.RowKit
end Go.Proofs.Ytdildmfjekdlgaa
/- Graphs: what the functions of layer 11 give. Plain facts. -/
namespace Go.Proofs.Ytdildmfjekdlgaa
open Go.RowKit
/-- A graph. -/
structure Gr where
  sz : Int
  es : List Edg
  gn : List Int
def noGr : Gr := ⟨0, [], []⟩
def keyB (z k : Int) : Bool := decide (0 ≤ k) && decide (k < z)
/-- Whether an edge's ends are two keys of those below z. -/
def endsB (z : Int) (e : Edg) : Bool := keyB z e.fr && (keyB z e.tu && !decide (e.fr = e.tu))
def levB (e : Edg) : Bool := decide (1 ≤ e.lv) && decide (e.lv ≤ 3)
def nextB (l : List Edg) (i : Nat) : Bool := decide (i = 0) || befE (l.getD (i - 1) noEdg) (l.getD i noEdg)
def freeB (g : List Int) (e : Edg) : Bool := !hasI g e.fr && !hasI g e.tu
def okE (G : Gr) (i : Nat) : Bool := endsB G.sz (G.es.getD i noEdg) && (levB (G.es.getD i noEdg) && (nextB G.es i && freeB G.gn (G.es.getD i noEdg)))
def headB (G : Gr) : Bool := decide (0 ≤ G.sz) && (decide (G.sz ≤ 64) && (decide (G.es.length ≤ 500) && setB G.gn G.sz))
def okG (G : Gr) : Bool := headB G && (List.range G.es.length).all (okE G)
/-- What Check says. -/
def checkG (G : Gr) : Int := if okG G then 0 else 14
theorem okG_head {G : Gr} (h : headB G = false) : okG G = false := by unfold okG; rw [h]; rfl
theorem okG_no {G : Gr} {i : Nat} (hi : i < G.es.length) (h : okE G i = false) : okG G = false := by
  unfold okG
  rw [Bool.and_eq_false_iff]
  right
  rw [List.all_eq_false]
  exact ⟨i, List.mem_range.2 hi, by rw [h]; decide⟩
theorem okG_yes {G : Gr} (h0 : headB G = true) (h : ∀ i, i < G.es.length → okE G i = true) : okG G = true := by
  unfold okG
  rw [h0, Bool.true_and, List.all_eq_true]
  exact fun i hi => h i (List.mem_range.1 hi)
/-- The place of an edge, or where it would stand. -/
def idxE (x : Edg) : List Edg → Nat
  | [] => 0
  | e :: m => if befE e x then idxE x m + 1 else 0
def thereE (x : Edg) (l : List Edg) : Bool := decide (idxE x l < l.length) && (decide ((l.getD (idxE x l) noEdg).fr = x.fr) && decide ((l.getD (idxE x l) noEdg).tu = x.tu))
theorem idxE_le (x : Edg) : ∀ l : List Edg, idxE x l ≤ l.length
  | [] => Nat.le_refl _
  | e :: m => by
    unfold idxE
    have := idxE_le x m
    split
    · simp only [List.length_cons]; omega
    · exact Nat.zero_le _
theorem idxE_low (x : Edg) : ∀ (l : List Edg) (i : Nat), i < idxE x l → befE (l.getD i noEdg) x = true
  | [], i, h => absurd h (Nat.not_lt_zero _)
  | e :: m, i, h => by
    unfold idxE at h
    split at h
    · rename_i hb
      cases i with
      | zero => exact hb
      | succ i => rw [List.getD_cons_succ]; exact idxE_low x m i (by omega)
    · exact absurd h (Nat.not_lt_zero _)
theorem idxE_at (x : Edg) : ∀ l : List Edg, idxE x l < l.length → befE (l.getD (idxE x l) noEdg) x = false
  | [], h => absurd h (Nat.not_lt_zero _)
  | e :: m, h => by
    unfold idxE at h ⊢
    split
    · rename_i hb
      rw [if_pos hb] at h
      rw [List.getD_cons_succ]
      exact idxE_at x m (by simpa using h)
    · rename_i hb
      simpa using hb
theorem idxE_eq {x : Edg} {l : List Edg} {k : Nat} (hk : k ≤ l.length) (h1 : ∀ i, i < k → befE (l.getD i noEdg) x = true) (h2 : k < l.length → befE (l.getD k noEdg) x = false) : idxE x l = k := by
  rcases Nat.lt_trichotomy (idxE x l) k with h | h | h
  · have := idxE_at x l (by omega)
    rw [h1 _ h] at this
    cases this
  · exact h
  · have h3 := idxE_low x l k h
    have := idxE_le x l
    rw [h2 (by omega)] at h3
    cases h3
def withG (G : Gr) (e : Edg) : Gr × Int :=
  if okG G = false then (noGr, 14) else if endsB G.sz e = false then (noGr, 4) else if freeB G.gn e = false then (noGr, 4) else if levB e = false then (noGr, 2) else if thereE e G.es then (noGr, 19)
  else if G.es.length = 500 then (noGr, 3) else (⟨G.sz, G.es.take (idxE e G.es) ++ e :: G.es.drop (idxE e G.es), G.gn⟩, 0)
def levelG (G : Gr) (lv : Int) : Gr := ⟨G.sz, G.es.filter (fun e => decide (lv ≤ e.lv)), G.gn⟩
/-- A graph as a value. -/
def GHold (w : World) (G : Gr) (v : Value) : Prop := ∃ A n c B m k, v = .agg #[.int .i64 G.sz, .slice A n c, .slice B m k] ∧ ERow w A n c G.es ∧ IRow w B m k G.gn
theorem GHold.later {w w' : World} {G : Gr} {v : Value} (h : GHold w G v) (hb : Later w w') : GHold w' G v := by
  obtain ⟨A, n, c, B, m, k, rfl, h1, h2⟩ := h
  exact ⟨A, n, c, B, m, k, rfl, GRow.later h1 hb, h2.later hb⟩
/-- A graph whose lists lie in blocks from B on. -/
def GOwn (w : World) (B : Nat) (G : Gr) (v : Value) : Prop := ∃ e g, v = .agg #[.int .i64 G.sz, e, g] ∧ w.ownsRow B 45 3 e G.es.length (rowC Edg.cells G.es) ∧ w.ownsRow B 3 1 g G.gn.length (intsV G.gn)
theorem GOwn.hold {w : World} {B : Nat} {G : Gr} {v : Value} (h : GOwn w B G v) : GHold w G v := by
  obtain ⟨e, g, rfl, h1, h2⟩ := h
  obtain ⟨A, c, rfl, hr⟩ := Row.of_own h1
  obtain ⟨A2, c2, rfl, hr2⟩ := Row.of_own h2
  exact ⟨_, _, _, _, _, _, rfl, hr, hr2⟩
theorem GOwn.later {w w' : World} {B : Nat} {G : Gr} {v : Value} (h : GOwn w B G v) (hb : Below w.heap.size w w') : GOwn w' B G v := by
  obtain ⟨e, g, rfl, h1, h2⟩ := h
  exact ⟨e, g, rfl, own_later h1 hb, own_later h2 hb⟩
theorem GOwn.none (w : World) (B : Nat) : GOwn w B noGr (.agg #[.int .i64 0, .slice none 0 0, .slice none 0 0]) := ⟨_, _, rfl, World.ownsRow_nil _ _ _ _, World.ownsRow_nil _ _ _ _⟩
/-- A call that gives a graph; one that gives a graph of its own; and those with an error. -/
def GivesG (w : World) (G : Gr) (x : Ending) (w' : World) : Prop := ∃ v, x = .returned v ∧ GHold w' G v ∧ Below w.heap.size w w'
def GivesGO (w : World) (G : Gr) (x : Ending) (w' : World) : Prop := ∃ v, x = .returned v ∧ GOwn w' w.heap.size G v ∧ Below w.heap.size w w'
def GivesGOE (w : World) (r : Gr × Int) (x : Ending) (w' : World) : Prop := ∃ v, x = .returned (.tuple #[v, .int .i64 r.2]) ∧ GOwn w' w.heap.size r.1 v ∧ Below w.heap.size w w'
end Go.Proofs.Ytdildmfjekdlgaa
