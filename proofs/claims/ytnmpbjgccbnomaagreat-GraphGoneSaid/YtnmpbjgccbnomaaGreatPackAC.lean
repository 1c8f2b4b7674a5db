import Derived.Test.YtnmpbjgccbnomaaGreatPackAB
import Derived.LoopN
import Derived.Test.YtnmpbjgccbnomaaGreatPackAA
import Derived.Laws.CopyRow
import Derived.Deep.Cut
import Derived.BigQuiet
/- A region that draws its order, walked step by step: readers, and at each fork all operations that may come up. Plain facts over any program. -/
namespace Go.Proofs.YtnmpbjgccbnomaaGreat
open Go.RowKit Go
section
variable {P : Program} {md : Region.Mode} {F : World → World → Prop}
theorem wpOp_of {l : List Oper} {Q : Exit → Act → World → Prop} {N R : Act → World → Prop} {e : Nat} (h3 : e < l.length) {a : Act} {w : World} (hK : ∀ a'' w', (F w w' ∧ N a'' w') → R a'' w')
    (ha : wpList P l.toArray (pieceEnd fun a'' w' => F w w' ∧ N a'' w') [pick l e] a w) : wpOp P l.toArray (NoPanic Q) e R a w := by
  unfold wpOp
  simp only [pick_at h3]
  unfold wpList at ha
  split at ha
  · rename_i hw
    rw [if_pos hw]
    rcases ha with ha | ⟨_, ⟨_, _, hx⟩⟩
    · refine .inl (wp_post (Q := pieceEnd _) (fun _ _ _ h => h.elim) (fun ⟨_, _, h⟩ => h.elim) (Oper.wp_mono (fun a'' w' h => hK a'' w' h) ha))
    · exact hx.elim
  · rename_i hw
    rw [if_neg hw]
    exact hK _ _ ha
/-- Readers come up and are taken. -/
theorem flow_reads {l : List Oper} {Q : Exit → Act → World → Prop} (hr : ∀ w, F w w) (hs : Region.noSelect l.toArray = true) {fuel : Nat} (is : List Nat) {listed : Array Bool} {a : Act} {w : World} (hB : readsB md l is listed = true)
    (h : wpQuiet P l.toArray (Futs F w) (fun a' => wpAnyH P md l.toArray (NoPanic Q) (Futs F w) fuel (setAll is listed) a' w) (is.map (pick l)) a) :
    wpAnyH P md l.toArray (NoPanic Q) (Futs F w) (is.length + fuel) listed a w :=
  wpAnyH_reads hs (Futs.of (hr w)) is listed a hB h (fun _ h => h)
/-- One operation, whichever comes up. -/
theorem flow_step {l : List Oper} {Q : Exit → Act → World → Prop} (ht : ∀ a b c, F a b → F b c → F a c) (hr : ∀ w, F w w) {fuel : Nat} (es : List Nat) {listed : Array Bool} {a : Act} {w : World} (h2 : (Region.ready md l.toArray listed == es) = true) (h0 : es ≠ []) (h3 : es.all (fun e => decide (e < l.length)) = true)
    (h : ∀ e ∈ es, wpList P l.toArray (pieceEnd fun a'' w' => F w w' ∧ wpAnyH P md l.toArray (NoPanic Q) (Futs F w') fuel (listed.setIfInBounds e true) a'' w') [pick l e] a w) :
    wpAnyH P md l.toArray (NoPanic Q) (Futs F w) (fuel + 1) listed a w := by
  have h2' : Region.ready md l.toArray listed = es := by simpa using h2
  refine wpAnyH_all h2' h0 (fun i hi => ?_)
  have hi3 : i < l.length := by simpa using List.all_eq_true.1 h3 i hi
  exact wpOp_of (F := F) hi3 (fun a'' w' ⟨hF, hg⟩ => ⟨Futs.of hF, wpAnyH_mono (fun x hx => Futs.of (ht _ _ _ hF (hx.to hr))) _ _ _ _ hg⟩) (h i hi)
theorem flow_one {l : List Oper} {Q : Exit → Act → World → Prop} (ht : ∀ a b c, F a b → F b c → F a c) (hr : ∀ w, F w w) {fuel : Nat} (e : Nat) {listed : Array Bool} {a : Act} {w : World} (h2 : (Region.ready md l.toArray listed == [e]) = true) (h3 : e < l.length)
    (h : wpList P l.toArray (pieceEnd fun a'' w' => F w w' ∧ wpAnyH P md l.toArray (NoPanic Q) (Futs F w') fuel (listed.setIfInBounds e true) a'' w') [pick l e] a w) :
    wpAnyH P md l.toArray (NoPanic Q) (Futs F w) (fuel + 1) listed a w :=
  flow_step ht hr [e] h2 (by simp) (by simpa using h3) (fun i hi => by
    have : i = e := by simpa using hi
    rw [this]; exact h)
theorem flow_two {l : List Oper} {Q : Exit → Act → World → Prop} (ht : ∀ a b c, F a b → F b c → F a c) (hr : ∀ w, F w w) {fuel : Nat} (e1 e2 : Nat) {listed : Array Bool} {a : Act} {w : World} (h2 : (Region.ready md l.toArray listed == [e1, e2]) = true) (h3 : e1 < l.length) (h4 : e2 < l.length)
    (h : wpList P l.toArray (pieceEnd fun a'' w' => F w w' ∧ wpAnyH P md l.toArray (NoPanic Q) (Futs F w') fuel (listed.setIfInBounds e1 true) a'' w') [pick l e1] a w)
    (h' : wpList P l.toArray (pieceEnd fun a'' w' => F w w' ∧ wpAnyH P md l.toArray (NoPanic Q) (Futs F w') fuel (listed.setIfInBounds e2 true) a'' w') [pick l e2] a w) :
    wpAnyH P md l.toArray (NoPanic Q) (Futs F w) (fuel + 1) listed a w :=
  flow_step ht hr [e1, e2] h2 (by simp) (by simp [h3, h4]) (fun i hi => by
    have : i = e1 ∨ i = e2 := by simpa using hi
    rcases this with rfl | rfl
    · exact h
    · exact h')
theorem flow_done {l : List Oper} {Q : Exit → Act → World → Prop} {listed : Array Bool} {a : Act} {w : World} (h2 : (Region.ready md l.toArray listed).isEmpty = true) (h : Q .normal a w) :
    wpAnyH P md l.toArray (NoPanic Q) (Futs F w) 0 listed a w := ⟨by simpa using h2, h⟩
theorem wp_region_flow {l : List Oper} {id : Nat} {Q : Exit → Act → World → Prop} {a : Act} {w : World} (hm : P.follows .mixedOrders = true) (F : World → World → Prop)
    (h : wpAnyH P .any l.toArray (NoPanic Q) (Futs F w.drew) l.length (Array.replicate l.length false) a w.drew) : (Code.region id l.toArray true).wp P Q a w := by
  refine wp_region_noPanic (wp_region_held hm (S := Futs F w.drew) ?_)
  rw [List.size_toArray]
  exact h
end
end Go.Proofs.YtnmpbjgccbnomaaGreat
/- An array of slices of strings that a call fills, slot by slot. -/
namespace Go.Proofs.YtnmpbjgccbnomaaGreat
open Go.RowKit
end Go.Proofs.YtnmpbjgccbnomaaGreat
/- slices.Sort of at most one string. -/
namespace Go.Proofs.YtnmpbjgccbnomaaGreat
open Go.RowKit
end Go.Proofs.YtnmpbjgccbnomaaGreat
/- slices.Sort of two strings. -/
namespace Go.Proofs.YtnmpbjgccbnomaaGreat
open Go.RowKit
end Go.Proofs.YtnmpbjgccbnomaaGreat
/- Reading an array's slot. -/
namespace Go.Proofs.YtnmpbjgccbnomaaGreat
open Go.RowKit
end Go.Proofs.YtnmpbjgccbnomaaGreat
/- The walk of chain.known's byNumber. -/
namespace Go.Proofs.YtnmpbjgccbnomaaGreat
open Go.RowKit
/-- The digests with number n of those that have come, in the order in which they came. -/
def came (l : List Stm) (seen : Array Nat) (n : Nat) : List ByteArray := (seen.toList.filter fun j => decide ((l.getD j noStm).number = n)).map fun j => (l.getD j noStm).dig
/-- Two strings stand in their order. -/
def Srt (l : List ByteArray) : Prop := ∀ x y, l = [x, y] → Op.bytesLess x.toList y.toList = true ∨ Op.bytesLess y.toList x.toList = false
/-- The same strings, in order. -/
def Prm (a b : List ByteArray) : Prop := a.Perm b ∧ Srt a
theorem Prm.trans {a b c : List ByteArray} (h : Prm a b) (k : b.Perm c) : Prm a c := ⟨h.1.trans k, h.2⟩
theorem Prm.short {a : List ByteArray} (h : a.length ≤ 1) : Prm a a := ⟨List.Perm.refl _, fun x y e => by rw [e] at h; simp at h⟩
end Go.Proofs.YtnmpbjgccbnomaaGreat
/- The walk of chain's continues. -/
namespace Go.Proofs.YtnmpbjgccbnomaaGreat
open Go.RowKit
/-- A row of statements goes on with o. -/
def contB (l : List Stm) (o : Stm) : Bool := if l.length = 0 then true else decide ((l.getD (l.length - 1) noStm).kind ≠ 3) && (behindB (l.getD (l.length - 1) noStm) o && (o.prev.toList == (l.getD (l.length - 1) noStm).dig.toList))
end Go.Proofs.YtnmpbjgccbnomaaGreat
/- The walk of chain.find, over statements that all count. -/
namespace Go.Proofs.YtnmpbjgccbnomaaGreat
open Go.RowKit
end Go.Proofs.YtnmpbjgccbnomaaGreat
/- The walk of chain.Counted. -/
namespace Go.Proofs.YtnmpbjgccbnomaaGreat
open Go.RowKit
def withNum (l : List Stm) (i : Nat) : List Stm := l.filter fun s => decide (s.number = (i : Int))
/-- The statement with number i goes on with the row. -/
def contNow (l row : List Stm) (i : Nat) : Bool := decide ((withNum l i).length = 1) && contB row ((withNum l i).headD noStm)
def countL (l : List Stm) : Nat → List Stm → Nat → List Stm
  | 0, row, _ => row
  | k + 1, row, i => if contNow l row i then countL l k (row ++ [(withNum l i).headD noStm]) (i + 1) else row
theorem countL_go (l row : List Stm) (j : Nat) (hj : j < 200) (h : contNow l row j = true) : countL l (200 - j) row j = countL l (200 - (j + 1)) (row ++ [(withNum l j).headD noStm]) (j + 1) := by
  rw [show 200 - j = (200 - (j + 1)) + 1 by omega, countL, if_pos h]
theorem countL_stop (l row : List Stm) (j : Nat) (hj : j < 200) (h : contNow l row j = false) : countL l (200 - j) row j = row := by
  rw [show 200 - j = (200 - (j + 1)) + 1 by omega, countL, if_neg (by rw [h]; decide)]
theorem own_lt {w : World} {B : Nat} {e : TypeId} {sz : Nat} {v : Value} {n : Nat} {xs : List Value} (h : w.ownsRow B e sz v n xs) : ∀ k, v.ownBlock = some k → k < w.heap.size := by
  intro k hk
  rcases h.2 with ⟨hn, _⟩ | ⟨a, cap, cur, rfl, ha, hgg, rest⟩
  · subst hn; cases hk
  · injection hk with hk
    subst hk
    exact (Array.getElem?_eq_some_iff.1 hgg).1
theorem stm_info : (Tryz.prog.info? 48).map (fun i => (i.zero, i.size, i.bytes)) = some (some (stmV noStm none 0 0 none 0 0), 13, 160) := by kernel_rfl
end Go.Proofs.YtnmpbjgccbnomaaGreat
/- The walk of chain.Fork where there is a fork. -/
namespace Go.Proofs.YtnmpbjgccbnomaaGreat
open Go.RowKit
theorem But.of_row (D : Nat) (w : World) (cs : Array Value) : But D w (w.setRow D cs) := ⟨rfl, rfl, rfl, (below_setRow (Below.refl D w) (Nat.le_refl _) cs).size, fun _ _ hne => setRow_other _ _ _ _ hne⟩
end Go.Proofs.YtnmpbjgccbnomaaGreat
/- Statements in blocks of their own: stored and loaded whole. -/
namespace Go.Proofs.YtnmpbjgccbnomaaGreat
open Go.RowKit
theorem modify_last {α : Type} (l : Array α) (o : α) (f : α → α) : (l.push o).modify l.size f = l.push (f o) := by
  apply Array.ext
  · simp
  · intro i h1 h2
    rw [Array.getElem_modify]
    by_cases h : l.size = i
    · subst h; simp
    · rw [if_neg h, Array.getElem_push_lt (by simp at h2; omega), Array.getElem_push_lt (by simp at h2; omega)]
theorem setRow_alloc (w : World) (old cells : Array Value) (t : TypeId) : (w.alloc (.cells old t)).setRow w.heap.size cells = w.alloc (.cells cells t) := by
  unfold World.setRow World.alloc
  rw [modify_last]
theorem wpList_store_new {P : Program} {ops : Array Oper} {rest : List Oper} {o : Oper} {a : Act} {w : World} {Q : Exit → Act → World → Prop} (hgd : o.guard = none) (ty : TypeId) (x y : Operand) (ho : o.op = .store ty x y)
    (t : TypeId) (old cells : Array Value) (hx : a.eval x = .pointer (some ⟨w.heap.size, 0, none⟩)) (hy : a.eval y = .agg cells) (hi : (P.info? ty).map (·.size) = some cells.size)
    (hold : old.size = cells.size) (h1 : cells.all (·.oneCell') = true) (h : wpList P ops Q rest (a.put o.dst undef) (w.alloc (.cells cells t))) : wpList P ops Q (o :: rest) a (w.alloc (.cells old t)) := by
  refine wpList_store_row hgd ty x y ho w.heap.size cells hx hy t old (heap_alloc_new _ _) hi hold h1 ?_
  rw [setRow_alloc]
  exact h
/-- A statement in a block of its own. -/
def BoxS (y : World) (B : Nat) (s : Stm) : Prop := y.heap[B]? = some (.cells #[.int .i64 s.author, .int .i64 s.number, .string s.prev, .int .i64 s.time, .int .i64 s.kind, .int .i64 s.a, .int .i64 s.b, .int .i64 s.c, .slice none 0 0, .slice none 0 0, .string s.body, .int .i64 s.key, .string s.dig] 48 (0, 0))
theorem BoxS.later {y z : World} {B : Nat} {s : Stm} (h : BoxS y B s) (hb : Below y.heap.size y z) : BoxS z B s := (hb.block _ (Array.getElem?_eq_some_iff.1 h).1).trans h
theorem BoxS.new (y : World) (s : Stm) : BoxS (y.alloc (.cells #[.int .i64 s.author, .int .i64 s.number, .string s.prev, .int .i64 s.time, .int .i64 s.kind, .int .i64 s.a, .int .i64 s.b, .int .i64 s.c, .slice none 0 0, .slice none 0 0, .string s.body, .int .i64 s.key, .string s.dig] 48)) y.heap.size s := heap_alloc_new _ _
end Go.Proofs.YtnmpbjgccbnomaaGreat
/- The walks of store's pick (by an author), Of, row, Height. -/
namespace Go.Proofs.YtnmpbjgccbnomaaGreat
open Go.RowKit
end Go.Proofs.YtnmpbjgccbnomaaGreat
/- The walks of the comparisons of lists. -/
namespace Go.Proofs.YtnmpbjgccbnomaaGreat
open Go.RowKit
def sameIB (l m : List Int) : Bool := decide (l.length = m.length) && (List.range l.length).all fun i => l.getD i 0 == m.getD i 0
def pinEq (p q : PinD) : Bool := decide (p.author = q.author) && decide (p.height = q.height) && decide (p.digest = q.digest)
def samePB (l m : List PinD) : Bool := decide (l.length = m.length) && (List.range l.length).all fun i => pinEq (l.getD i noPin) (m.getD i noPin)
theorem sameIB_self (l : List Int) : sameIB l l = true := by simp [sameIB]
theorem samePB_self (l : List PinD) : samePB l l = true := by simp [samePB, pinEq]
theorem IRow.cell' {w : World} {A : Option Addr} {n c : Nat} {l : List Int} (h : IRow w A n c l) (k : Nat) (hk : k < n) : ∃ b off, A = some ⟨b, off, none⟩ ∧ w.cell? ⟨b, off + k, none⟩ = some (.int .i64 (l.getD k 0)) := by
  obtain ⟨b, off, hA, hc⟩ := Row.form h (by omega)
  have hl := h.len
  have := hc k (by omega)
  rw [intsV_get _ _ (by omega)] at this
  exact ⟨b, off, hA, this⟩
set_option maxHeartbeats 1000000 in
theorem sameInts_any (A : Option Addr) (n c : Nat) (l : List Int) (B : Option Addr) (m k : Nat) (l2 : List Int) (w : World) (h1 : IRow w A n c l) (h2 : IRow w B m k l2) (hn : n ≤ 1000000) :
    Calls Tryz.prog 32 #[.slice A n c, .slice B m k] w (SaysL (.bool (sameIB l l2)) w) := by
  have H1 := Lib.hid h1; have H2 := Lib.hid h2
  have HS : Hid (sameIB l l2 = (decide (n = m) && (List.range n).all fun i => l.getD i 0 == l2.getD i 0)) := by unfold Hid sameIB; rw [h1.len, h2.len]
  clear h1 h2
  generalize sameIB l l2 = R at HS ⊢
  go_enter Tryz.func32, Tryz.ntmps32
  by_cases hm : n = m
  · subst hm
    have HS2 : Hid (R = (List.range n).all fun i => l.getD i 0 == l2.getD i 0) := by unfold Hid; rw [HS.out]; simp
    clear HS
    go_wp2_with fail
    go_loopw [5] (fun i wr => ∃ j : Nat, j ≤ n ∧ i = .int .i64 j ∧ Hid (((List.range j).all fun i => l.getD i 0 == l2.getD i 0) = true ∧ Below w.heap.size w wr)) (fun i _ => n - (intOf i).toNat)
    case atStart => exact ⟨0, Nat.zero_le _, rfl, Lib.hid ⟨rfl, Below.refl _ _⟩⟩
    case round =>
      obtain ⟨j, hj, rfl, HQ⟩ := hrel
      by_cases hlt : j < n
      · obtain ⟨b1, o1, hA, hc1⟩ := (H1.out.later HQ.out.2).cell' j hlt
        obtain ⟨b2, o2, hB, hc2⟩ := (H2.out.later HQ.out.2).cell' j hlt
        subst hA; subst hB
        have NO : Hid ((l.getD j 0 == l2.getD j 0) = false → R = false) := Lib.hid fun h => by rw [HS2.out]; exact all_no hlt h
        have YES : Hid ((l.getD j 0 == l2.getD j 0) = true → ((List.range (j + 1)).all fun i => l.getD i 0 == l2.getD i 0) = true) := Lib.hid fun h => all_more HQ.out.1 h
        generalize l.getD j 0 = x at hc1 NO YES
        generalize l2.getD j 0 = y at hc2 NO YES
        have HB := Lib.hid HQ.out.2; clear HQ
        cases g : (x == y)
        · have g2 : (x != y) = true := by simp only [bne, g]; rfl
          have HR := Lib.hid (NO.out g)
          go_wp2_with fail
          go_quiet (fail)
          go_wp2
          go_ret
          exact ⟨by rw [HR.out]; rfl, below_nq HB.out _⟩
        · have g2 : (x != y) = false := by simp only [bne, g]; rfl
          have HY := Lib.hid (YES.out g)
          go_wp2_with fail
          go_quiet (fail)
          go_wp2
          exact ⟨⟨j + 1, hlt, by go_num, Lib.hid ⟨HY.out, below_nq HB.out _⟩⟩, by simp [intOf]; omega⟩
      · have HE : Hid (j = n) := by unfold Hid; omega
        go_wp2
        go_ret
        exact ⟨by rw [HS2.out, ← HE.out, HQ.out.1]; rfl, HQ.out.2⟩
  · have HV : Hid (R = false) := by unfold Hid; rw [HS.out]; simp [hm]
    have g : ((n : Int) != m) = true := by simp; omega
    go_wp2
    go_ret
    exact ⟨by rw [HV.out]; rfl, Below.refl _ _⟩
set_option maxHeartbeats 2000000 in
theorem samePins_any (A : Option Addr) (n c : Nat) (l : List PinD) (B : Option Addr) (m k : Nat) (l2 : List PinD) (w : World) (h1 : PRow w A n c l) (h2 : PRow w B m k l2) (hn : n ≤ 1000000) :
    Calls Tryz.prog 91 #[.slice A n c, .slice B m k] w (SaysL (.bool (samePB l l2)) w) := by
  have H1 := Lib.hid h1; have H2 := Lib.hid h2
  have HS : Hid (samePB l l2 = (decide (n = m) && (List.range n).all fun i => pinEq (l.getD i noPin) (l2.getD i noPin))) := by unfold Hid samePB; rw [h1.len, h2.len]
  clear h1 h2
  generalize samePB l l2 = R at HS ⊢
  go_enter Tryz.func91, Tryz.ntmps91
  by_cases hm : n = m
  · subst hm
    have HS2 : Hid (R = (List.range n).all fun i => pinEq (l.getD i noPin) (l2.getD i noPin)) := by unfold Hid; rw [HS.out]; simp
    clear HS
    go_wp2_with fail
    go_loopw [5] (fun i wr => ∃ j : Nat, j ≤ n ∧ i = .int .i64 j ∧ Hid (((List.range j).all fun i => pinEq (l.getD i noPin) (l2.getD i noPin)) = true ∧ Below w.heap.size w wr)) (fun i _ => n - (intOf i).toNat)
    case atStart => exact ⟨0, Nat.zero_le _, rfl, Lib.hid ⟨rfl, Below.refl _ _⟩⟩
    case round =>
      obtain ⟨j, hj, rfl, HQ⟩ := hrel
      by_cases hlt : j < n
      · obtain ⟨b1, o1, hA, hc0, hc1, hc2⟩ := (H1.out.later HQ.out.2).cells j hlt
        obtain ⟨b2, o2, hB, hd0, hd1, hd2⟩ := (H2.out.later HQ.out.2).cells j hlt
        subst hA; subst hB
        have NO : Hid (pinEq (l.getD j noPin) (l2.getD j noPin) = false → R = false) := Lib.hid fun h => by rw [HS2.out]; exact all_no hlt h
        have YES : Hid (pinEq (l.getD j noPin) (l2.getD j noPin) = true → ((List.range (j + 1)).all fun i => pinEq (l.getD i noPin) (l2.getD i noPin)) = true) := Lib.hid fun h => all_more HQ.out.1 h
        generalize l.getD j noPin = x at hc0 hc1 hc2 NO YES
        generalize l2.getD j noPin = y at hd0 hd1 hd2 NO YES
        have HB := Lib.hid HQ.out.2; clear HQ
        obtain ⟨xa, xh, xd⟩ := x
        obtain ⟨ya, yh, yd⟩ := y
        simp only at hc0 hc1 hc2 hd0 hd1 hd2 NO YES
        by_cases e0 : xa = ya
        · by_cases e1 : xh = yh
          · by_cases e2 : xd.toList = yd.toList
            · have HY := Lib.hid (YES.out (by unfold pinEq; simp [e0, e1, (toList_iff _ _).1 e2]))
              go_wp2_with fail
              go_quiet (fail)
              go_wp2
              exact ⟨⟨j + 1, hlt, by go_num, Lib.hid ⟨HY.out, below_nq HB.out _⟩⟩, by simp [intOf]; omega⟩
            · have e3 : ¬ xd = yd := fun h => e2 ((toList_iff _ _).2 h)
              have HR := Lib.hid (NO.out (by unfold pinEq; simp [e3]))
              go_wp2_with fail
              go_quiet (fail)
              go_wp2
              go_ret
              exact ⟨by rw [HR.out]; rfl, below_nq HB.out _⟩
          · have HR := Lib.hid (NO.out (by unfold pinEq; simp [e1]))
            go_wp2_with fail
            go_quiet (fail)
            go_wp2
            go_ret
            exact ⟨by rw [HR.out]; rfl, below_nq HB.out _⟩
        · have HR := Lib.hid (NO.out (by unfold pinEq; simp [e0]))
          go_wp2_with fail
          go_quiet (fail)
          go_wp2
          go_ret
          exact ⟨by rw [HR.out]; rfl, below_nq HB.out _⟩
      · have HE : Hid (j = n) := by unfold Hid; omega
        go_wp2
        go_ret
        exact ⟨by rw [HS2.out, ← HE.out, HQ.out.1]; rfl, HQ.out.2⟩
  · have HV : Hid (R = false) := by unfold Hid; rw [HS.out]; simp [hm]
    have g : ((n : Int) != m) = true := by simp; omega
    go_wp2
    go_ret
    exact ⟨by rw [HV.out]; rfl, Below.refl _ _⟩
end Go.Proofs.YtnmpbjgccbnomaaGreat
/- The walks of Same, of the program and of the reference. -/
namespace Go.Proofs.YtnmpbjgccbnomaaGreat
open Go.RowKit
def sameS (s t : Stm) : Bool :=
  (s.author == t.author) && (s.number == t.number) && (s.prev.toList == t.prev.toList) && (s.time == t.time) && (s.kind == t.kind) && (s.a == t.a) && (s.b == t.b) && (s.c == t.c) && sameIB s.list t.list && samePB s.pins t.pins && (s.body.toList == t.body.toList) && (decide (s.key = t.key) && decide (s.dig = t.dig))
theorem sameS_self (s : Stm) : sameS s s = true := by simp [sameS, sameIB_self, samePB_self]
end Go.Proofs.YtnmpbjgccbnomaaGreat
/- The walk of slices.EqualFunc for two slices of the same statements. -/
namespace Go.Proofs.YtnmpbjgccbnomaaGreat
open Go.RowKit
end Go.Proofs.YtnmpbjgccbnomaaGreat
/- The walk of chain.Next. -/
namespace Go.Proofs.YtnmpbjgccbnomaaGreat
open Go.RowKit
def zA : Array Value := #[.int .i64 0, .int .i64 0, .string ⟨#[]⟩, .int .i64 0, .int .i64 0, .int .i64 0, .int .i64 0, .int .i64 0, .slice none 0 0, .slice none 0 0, .string ⟨#[]⟩, .int .i64 0, .string ⟨#[]⟩]
/-- In the midst of the call: what its two blocks hold. -/
structure NMid (w : World) (cs : Array Value) (x : World) : Prop where
  cur : x.heap[w.heap.size]? = some (.cells cs 48 (0, 0))
  res : x.heap[w.heap.size + 1]? = some (.cells zA 48 (0, 0))
  below : Below w.heap.size w x
theorem NMid.lt {w x : World} {cs : Array Value} (h : NMid w cs x) : w.heap.size + 1 < x.heap.size := (Array.getElem?_eq_some_iff.1 h.res).1
theorem NMid.later {w x y : World} {cs : Array Value} (h : NMid w cs x) (hb : Below x.heap.size x y) : NMid w cs y :=
  ⟨(hb.block _ (by have := h.lt; omega)).trans h.cur, (hb.block _ h.lt).trans h.res, h.below.trans (hb.mono h.below.size)⟩
theorem NMid.set {w x : World} {cs : Array Value} (h : NMid w cs x) (i : Nat) (v : Value) : NMid w (cs.setIfInBounds i v) (x.setCell ⟨w.heap.size, i, none⟩ v) :=
  ⟨heap_setCell_same _ _ _ _ _ _ h.cur, (Below.heap_setCell _ _ _ _ (by show w.heap.size + 1 ≠ w.heap.size; omega)).trans h.res, h.below.setCell (Nat.le_refl _) _⟩
end Go.Proofs.YtnmpbjgccbnomaaGreat
/- The digest over plain natural numbers, which the kernel reckons fast, and that it is the digest. No program. -/
namespace Go.Proofs.YtnmpbjgccbnomaaGreat
namespace F
/-- The number is worked out before it is handed on. -/
def force {α : Type} (n : Nat) (f : Nat → α) : α := match n with
  | 0 => f 0
  | k + 1 => f (k + 1)
def rot (x n m : Nat) : Nat := Nat.lor (Nat.mod (Nat.mul x m) 4294967296) (Nat.mod (Nat.div x n) 4294967296)
def s0 (x : Nat) : Nat := Nat.xor (Nat.xor (rot x 128 33554432) (rot x 262144 16384)) (Nat.mod (Nat.div x 8) 4294967296)
def s1 (x : Nat) : Nat := Nat.xor (Nat.xor (rot x 131072 32768) (rot x 524288 8192)) (Nat.mod (Nat.div x 1024) 4294967296)
def b0 (x : Nat) : Nat := Nat.xor (Nat.xor (rot x 4 1073741824) (rot x 8192 524288)) (rot x 4194304 1024)
def b1 (x : Nat) : Nat := Nat.xor (Nat.xor (rot x 64 67108864) (rot x 2048 2097152)) (rot x 33554432 128)
def ch (e f g : Nat) : Nat := Nat.xor (Nat.land e f) (Nat.land (Nat.sub 4294967295 e) g)
def maj (a b c : Nat) : Nat := Nat.xor (Nat.xor (Nat.land a b) (Nat.land a c)) (Nat.land b c)
def add (a b : Nat) : Nat := Nat.mod (Nat.add a b) 4294967296
structure S where
  a : Nat
  b : Nat
  c : Nat
  d : Nat
  e : Nat
  f : Nat
  g : Nat
  h : Nat
def go : List Nat → List Nat → S → S
  | [], _, s => s
  | k :: ks, w0 :: w1 :: w2 :: w3 :: w4 :: w5 :: w6 :: w7 :: w8 :: w9 :: w10 :: w11 :: w12 :: w13 :: w14 :: w15 :: _, s =>
    force (add (add (add (add s.h (b1 s.e)) (ch s.e s.f s.g)) k) w0) fun t =>
    force (add (add t (b0 s.a)) (maj s.a s.b s.c)) fun a =>
    force (add s.d t) fun e =>
    force (add (add (add w0 (s0 w1)) w9) (s1 w14)) fun w16 =>
    go ks [w1, w2, w3, w4, w5, w6, w7, w8, w9, w10, w11, w12, w13, w14, w15, w16] ⟨a, s.a, s.b, s.c, e, s.e, s.f, s.g⟩
  | _ :: _, _, s => s
def sum (s t : S) : S := ⟨add s.a t.a, add s.b t.b, add s.c t.c, add s.d t.d, add s.e t.e, add s.f t.f, add s.g t.g, add s.h t.h⟩
/-- A state as plain numbers. -/
def ofSt (s : Sha.St) : S := ⟨s.a.toNat, s.b.toNat, s.c.toNat, s.d.toNat, s.e.toNat, s.f.toNat, s.g.toNat, s.h.toNat⟩
def KN : List Nat := Sha.K.map UInt32.toNat
theorem add_eq (x y : UInt32) : (x + y).toNat = add x.toNat y.toNat := by rw [UInt32.toNat_add]; rfl
theorem rot_eq (x : UInt32) (n : Nat) : (rotr x n).toNat = rot x.toNat (2 ^ n) (2 ^ (32 - n)) := by
  unfold rotr ushl ushr rot
  rw [UInt32.toNat_or, UInt32.toNat_ofNat', UInt32.toNat_ofNat']
  rfl
theorem not_eq (x : UInt32) : (~~~x).toNat = Nat.sub 4294967295 x.toNat := by
  rw [UInt32.toNat_not]; rfl
theorem b0_eq (x : UInt32) : (Sha.big0 x).toNat = b0 x.toNat := by
  unfold Sha.big0 b0; rw [UInt32.toNat_xor, UInt32.toNat_xor, rot_eq, rot_eq, rot_eq]; rfl
theorem b1_eq (x : UInt32) : (Sha.big1 x).toNat = b1 x.toNat := by
  unfold Sha.big1 b1; rw [UInt32.toNat_xor, UInt32.toNat_xor, rot_eq, rot_eq, rot_eq]; rfl
theorem ch_eq (x y z : UInt32) : (Sha.ch x y z).toNat = ch x.toNat y.toNat z.toNat := by
  unfold Sha.ch ch; rw [UInt32.toNat_xor, UInt32.toNat_and, UInt32.toNat_and, not_eq]; rfl
theorem maj_eq (x y z : UInt32) : (Sha.maj x y z).toNat = maj x.toNat y.toNat z.toNat := by
  unfold Sha.maj maj; rw [UInt32.toNat_xor, UInt32.toNat_xor, UInt32.toNat_and, UInt32.toNat_and, UInt32.toNat_and]; rfl
theorem round_eq (s : Sha.St) (k w : UInt32) : ofSt (Sha.round s k w) =
    ⟨add (add (add (add (add (add (ofSt s).h (b1 (ofSt s).e)) (ch (ofSt s).e (ofSt s).f (ofSt s).g)) k.toNat) w.toNat) (b0 (ofSt s).a)) (maj (ofSt s).a (ofSt s).b (ofSt s).c), (ofSt s).a, (ofSt s).b, (ofSt s).c,
      add (ofSt s).d (add (add (add (add (ofSt s).h (b1 (ofSt s).e)) (ch (ofSt s).e (ofSt s).f (ofSt s).g)) k.toNat) w.toNat), (ofSt s).e, (ofSt s).f, (ofSt s).g⟩ := by
  unfold Sha.round ofSt Sha.vv
  simp only [add_eq, b0_eq, b1_eq, ch_eq, maj_eq]
/-- A block mixed in, over plain numbers. -/
def mix (ws : List Nat) (s : S) : S := sum s (go KN ws s)
def word4 (a b c d : Nat) : Nat := Nat.lor (Nat.lor (Nat.lor (Nat.mod (Nat.mul a 16777216) 4294967296) (Nat.mod (Nat.mul b 65536) 4294967296)) (Nat.mod (Nat.mul c 256) 4294967296)) d
def words : Nat → List Nat → List Nat
  | 0, _ => []
  | k + 1, a :: b :: c :: d :: l => force (word4 a b c d) fun x => x :: words k l
  | _ + 1, _ => []
/-- A state whose numbers are worked out before it is handed on. -/
def forceS {α : Type} (s : S) (f : S → α) : α :=
  force s.a fun a => force s.b fun b => force s.c fun c => force s.d fun d => force s.e fun e => force s.f fun x => force s.g fun g => force s.h fun h => f ⟨a, b, c, d, e, x, g, h⟩
def eat : Nat → List Nat → S → S
  | 0, _, s => s
  | q + 1, l, s => forceS (mix (words 16 l) s) fun s => eat q (l.drop 64) s
def iv : S := ⟨1779033703, 3144134277, 1013904242, 2773480762, 1359893119, 2600822924, 528734635, 1541459225⟩
/-- The bytes of a state. -/
def bytes4 (x : Nat) : List Nat := [Nat.mod (Nat.div x 16777216) 256, Nat.mod (Nat.div x 65536) 256, Nat.mod (Nat.div x 256) 256, Nat.mod x 256]
def text (s : S) : List Nat := bytes4 s.a ++ bytes4 s.b ++ bytes4 s.c ++ bytes4 s.d ++ bytes4 s.e ++ bytes4 s.f ++ bytes4 s.g ++ bytes4 s.h
end F
end Go.Proofs.YtnmpbjgccbnomaaGreat
/- The digests of bare statements over plain numbers. No program. -/
namespace Go.Proofs.YtnmpbjgccbnomaaGreat
namespace F
/-- A statement that says next to nothing. -/
def bare (author number : Nat) (prev : ByteArray) (time kind a : Nat) : Stm := ⟨author, number, prev, time, kind, a, 0, 0, [], [], ⟨#[]⟩, 0, ⟨#[]⟩⟩
end F
end Go.Proofs.YtnmpbjgccbnomaaGreat
/- Rows of bare statements: what counts of them. No program. -/
namespace Go.Proofs.YtnmpbjgccbnomaaGreat
/-- A statement that may stand in a row: whatever a row asks of each of its statements. -/
structure Fit (au : Int) (x : Stm) : Prop where
  author : x.author = au
  check : checkV x = 0
  sealed : sealedB x = true
  bare : x.list = [] ∧ x.pins = [] ∧ Small x ∧ 0 ≤ x.number ∧ x.number < 200
theorem Good.nil (au : Int) : Good au [] := ⟨fun _ h => by simp at h, fun _ h => by simp at h, fun _ h => by simp at h, fun _ h => by simp at h, by simp⟩
theorem Good.snoc {au : Int} {l : List Stm} {x : Stm} (h : Good au l) (hx : Fit au x) (hd : ∀ y ∈ l, y.dig ≠ x.dig) : Good au (l ++ [x]) := by
  have k : ∀ {P : Stm → Prop}, (∀ s ∈ l, P s) → P x → ∀ s ∈ l ++ [x], P s := fun h1 h2 s hs => by
    rcases List.mem_append.1 hs with h | h
    · exact h1 s h
    · rw [List.mem_singleton.1 h]; exact h2
  refine ⟨k h.author hx.author, k h.check hx.check, k h.sealed hx.sealed, k h.bare hx.bare, ?_⟩
  rw [List.map_append, List.nodup_append]
  refine ⟨h.nodup, by simp, fun a ha b hb => ?_⟩
  obtain ⟨y, hy, rfl⟩ := List.mem_map.1 ha
  rw [show b = x.dig by simpa using hb]
  exact hd y hy
/-- What counts, where a row's statements are the only ones with their numbers, and each one goes on. -/
theorem countL_walk (L row : List Stm) (hrow : ∀ i (h : i < row.length), withNum L i = [row[i]] ∧ contB (row.take i) row[i] = true) (hm : row.length < 200) (hstop : contNow L row row.length = false) : countL L 200 [] 0 = row := by
  have key : ∀ j, j ≤ row.length → countL L 200 [] 0 = countL L (200 - j) (row.take j) j := by
    intro j
    induction j with
    | zero => intro _; rfl
    | succ j ih =>
      intro hj
      obtain ⟨h1, h2⟩ := hrow j (by omega)
      rw [ih (by omega), countL_go L (row.take j) j (by omega) (by unfold contNow; rw [h1]; simpa using h2), h1]
      congr 1
      rw [List.take_add_one, List.getElem?_eq_getElem (by omega)]
      rfl
  rw [key row.length (Nat.le_refl _), List.take_of_length_le (Nat.le_refl _)]
  exact countL_stop L row row.length hm hstop
/-- A row that counts wholly. -/
structure Whole' (au : Int) (l : List Stm) : Prop where
  good : Good au l
  num : ∀ i (h : i < l.length), (l[i]).number = (i : Int)
  cont : ∀ i (h : i < l.length), contB (l.take i) l[i] = true
theorem Whole'.nil (au : Int) : Whole' au [] := ⟨Good.nil au, fun _ h => absurd h (by simp), fun _ h => absurd h (by simp)⟩
theorem withNum_snoc (l : List Stm) (x : Stm) (i : Nat) : withNum (l ++ [x]) i = withNum l i ++ if x.number = (i : Int) then [x] else [] := by
  unfold withNum
  rw [List.filter_append]
  by_cases h : x.number = (i : Int)
  · rw [if_pos h]; simp [h]
  · rw [if_neg h]; simp [h]
theorem withNum_of : ∀ (n : Nat) (l : List Stm), l.length = n → (∀ i (h : i < l.length), (l[i]).number = (i : Int)) → ∀ i, withNum l i = if h : i < l.length then [l[i]] else [] := by
  intro n
  induction n with
  | zero =>
    intro l hl _ i
    have : l = [] := List.eq_nil_of_length_eq_zero hl
    subst this
    rfl
  | succ n ih =>
    intro l hl hn i
    obtain ⟨m, x, rfl⟩ : ∃ m x, l = m ++ [x] := ⟨l.dropLast, l.getLast (by intro h; rw [h] at hl; simp at hl), (List.dropLast_concat_getLast _).symm⟩
    have hm : m.length = n := by simpa using hl
    have h1 := ih m hm (fun j hj => by have h := hn j (by simp; omega); rwa [List.getElem_append_left hj] at h) i
    have h2 : x.number = (n : Int) := by have h := hn n (by simp; omega); rwa [List.getElem_append_right (by omega), List.getElem_singleton] at h
    rw [withNum_snoc, h1, h2]
    by_cases hi : i < m.length
    · rw [dif_pos hi, dif_pos (by simp; omega), if_neg (by omega), List.append_nil, List.getElem_append_left hi]
    · rw [dif_neg hi, List.nil_append]
      by_cases hin : n = i
      · subst hin
        rw [if_pos rfl, dif_pos (by simp; omega), List.getElem_append_right (by omega), List.getElem_singleton]
      · rw [if_neg (by omega), dif_neg (by simp; omega)]
theorem Whole'.at {au : Int} {l : List Stm} (h : Whole' au l) (i : Nat) : withNum l i = if h : i < l.length then [l[i]] else [] := withNum_of _ l rfl h.num i
theorem Whole'.snoc {au : Int} {l : List Stm} {x : Stm} (h : Whole' au l) (hx : Fit au x) (hd : ∀ y ∈ l, y.dig ≠ x.dig) (hn : x.number = (l.length : Int)) (hc : contB l x = true) : Whole' au (l ++ [x]) := by
  refine ⟨h.good.snoc hx hd, fun i hi => ?_, fun i hi => ?_⟩
  · by_cases hil : i < l.length
    · rw [List.getElem_append_left hil]; exact h.num i hil
    · rw [List.getElem_append_right (by omega), List.getElem_singleton, hn]
      have : i = l.length := by simp at hi; omega
      rw [this]
  · by_cases hil : i < l.length
    · rw [List.getElem_append_left hil, List.take_append_of_le_length (by omega)]; exact h.cont i hil
    · have e : i = l.length := by simp at hi; omega
      subst e
      rw [List.getElem_append_right (Nat.le_refl _), List.getElem_singleton, List.take_append_of_le_length (Nat.le_refl _), List.take_of_length_le (Nat.le_refl _)]
      exact hc
theorem Whole'.count {au : Int} {l : List Stm} (h : Whole' au l) (hm : l.length < 200) : countL l 200 [] 0 = l :=
  countL_walk l l (fun i hi => ⟨by rw [h.at i, dif_pos hi], h.cont i hi⟩) hm (by unfold contNow; rw [h.at l.length, dif_neg (Nat.lt_irrefl _)]; rfl)
theorem Whole'.two {au : Int} {l : List Stm} (h : Whole' au l) (n : Nat) : (l.filter fun s => decide (s.number = (n : Int))).length ≤ 2 := by
  have e := h.at n
  unfold withNum at e
  rw [e]
  by_cases hn : n < l.length
  · rw [dif_pos hn]; simp
  · rw [dif_neg hn]; simp
end Go.Proofs.YtnmpbjgccbnomaaGreat
/- The walk of chain.Fork without a fork; and over two statements. -/
namespace Go.Proofs.YtnmpbjgccbnomaaGreat
open Go.RowKit
end Go.Proofs.YtnmpbjgccbnomaaGreat
/- The walk of statement.Encode. -/
namespace Go.Proofs.YtnmpbjgccbnomaaGreat
open Go.RowKit
end Go.Proofs.YtnmpbjgccbnomaaGreat
/- Two statements as evidence: plain facts. -/
namespace Go.Proofs.YtnmpbjgccbnomaaGreat
open Go.RowKit
/-- Two statements as a value. -/
def forkV (s : Stm) (A : Option Addr) (n c : Nat) (B : Option Addr) (m k : Nat) (t : Stm) (A2 : Option Addr) (n2 c2 : Nat) (B2 : Option Addr) (m2 k2 : Nat) : Value := .agg #[.int .i64 s.author, .int .i64 s.number, .string s.prev, .int .i64 s.time, .int .i64 s.kind, .int .i64 s.a, .int .i64 s.b, .int .i64 s.c, .slice A n c, .slice B m k, .string s.body, .int .i64 s.key, .string s.dig, .int .i64 t.author, .int .i64 t.number, .string t.prev, .int .i64 t.time, .int .i64 t.kind, .int .i64 t.a, .int .i64 t.b, .int .i64 t.c, .slice A2 n2 c2, .slice B2 m2 k2, .string t.body, .int .i64 t.key, .string t.dig]
end Go.Proofs.YtnmpbjgccbnomaaGreat
/- Two statements in one block, loaded whole or by halves. -/
namespace Go.Proofs.YtnmpbjgccbnomaaGreat
open Go.RowKit
/-- A block is loaded whole, by an operation that is guarded. -/
theorem wpList_load_rowG {P : Program} {ops : Array Oper} {rest : List Oper} {o : Oper} {a : Act} {w : World} {Q : Exit → Act → World → Prop} (hw : Region.wanted o (yielded ops a.tmps) = true) (ty : TypeId) (x : Operand) (ho : o.op = .load ty x)
    (g : Nat) (hx : a.eval x = .pointer (some ⟨g, 0, none⟩)) (t : TypeId) (cs : Array Value) (fr : Nat × Nat) (d : TypeDesc) (hg : w.heap[g]? = some (.cells cs t fr))
    (hu : P.underlying ty = some d) (hd : (match d with | .struct _ | .array _ _ => true | _ => false) = true) (hi : (P.info? ty).map (·.size) = some cs.size)
    (h : wpList P ops Q rest (a.put o.dst (.agg cs)) w) : wpList P ops Q (o :: rest) a w :=
  wpList_want hw fun _ hK => wp_load_row ty x ho g hx t cs fr d hg hu hd hi (hK _ _ h)
end Go.Proofs.YtnmpbjgccbnomaaGreat
/- The walk of fork.of. -/
namespace Go.Proofs.YtnmpbjgccbnomaaGreat
open Go.RowKit
end Go.Proofs.YtnmpbjgccbnomaaGreat
/- The digests of the sanity check's statements. -/
namespace Go.Proofs.YtnmpbjgccbnomaaGreat
open Go.RowKit
namespace F
end F
end Go.Proofs.YtnmpbjgccbnomaaGreat
/- The walk of fork.Find over two statements. -/
namespace Go.Proofs.YtnmpbjgccbnomaaGreat
open Go.RowKit
end Go.Proofs.YtnmpbjgccbnomaaGreat
/- The walks of fork.Guilty and fork.From over two statements. -/
namespace Go.Proofs.YtnmpbjgccbnomaaGreat
open Go.RowKit
/-- Cells are loaded as one value, wherever they lie. -/
theorem run_loadVar_cells {P : Program} (w : World) (g off : Nat) (ty : TypeId) (part : Array Value) (d : TypeDesc)
    (hu : P.underlying ty = some d) (hd : (match d with | .struct _ | .array _ _ => true | _ => false) = true) (hi : (P.info? ty).map (·.size) = some part.size) (hp : ∀ j, j < part.size → w.cell? ⟨g, off + j, none⟩ = part[j]?) :
    (loadVar ty ⟨g, off, none⟩).run P w = .ok (.agg part) w := by
  have hl : (loadCells ⟨g, off, none⟩ part.toList.length).run P w = .ok part.toList.toArray w :=
    run_loadCells_list (P := P) w ⟨g, off, none⟩ part.toList (fun j v hv => by
      have hadd : (⟨g, off, none⟩ : Addr).add j = ⟨g, off + j, none⟩ := by unfold Addr.add; split <;> simp_all
      have hj : j < part.size := by
        rcases Nat.lt_or_ge j part.size with h | h
        · exact h
        · rw [List.getElem?_eq_none (by simpa using h)] at hv; cases hv
      rw [hadd, hp j hj]
      simpa using hv)
  cases hq : P.info? ty with
  | none => simp [hq] at hi
  | some i =>
    have hs : i.size = part.size := by simpa [hq] using hi
    have hagg : (isAgg ty).run P w = .ok true w := by
      unfold isAgg
      rw [Sem.run_bind, run_underlying hu w]
      cases d <;> simp_all
    simp only [Array.length_toList, Array.toArray_toList] at hl
    simp [loadVar, Sem.run_bind, hagg, sizeOf, typeInfo, hq, hs, hl]
theorem wpList_load_cells {P : Program} {ops : Array Oper} {rest : List Oper} {o : Oper} {a : Act} {w : World} {Q : Exit → Act → World → Prop} (hgd : o.guard = none) (ty : TypeId) (x : Operand) (ho : o.op = .load ty x)
    (g off : Nat) (hx : a.eval x = .pointer (some ⟨g, off, none⟩)) (part : Array Value) (d : TypeDesc)
    (hu : P.underlying ty = some d) (hd : (match d with | .struct _ | .array _ _ => true | _ => false) = true) (hi : (P.info? ty).map (·.size) = some part.size) (hp : ∀ j, j < part.size → w.cell? ⟨g, off + j, none⟩ = part[j]?)
    (h : wpList P ops Q rest (a.put o.dst (.agg part)) w) : wpList P ops Q (o :: rest) a w :=
  wpList_plain hgd fun K hK => by
    unfold Oper.wp execOp
    simp only [ho, hx, Instr.loadAt, Instr.sureAddr, Sem.run_bind, Sem.run_pure, Result.andThen_ok, run_loadVar_cells w g off ty part d hu hd hi hp]
    exact hK _ _ h
end Go.Proofs.YtnmpbjgccbnomaaGreat
/- Rows of statements with lists. -/
namespace Go.Proofs.YtnmpbjgccbnomaaGreat
open Go.RowKit
/-- A statement, and where its lists lie. -/
structure Pl where
  s : Stm
  A : Option Addr
  n : Nat
  c : Nat
  B : Option Addr
  m : Nat
  k : Nat
def Pl.cells (p : Pl) : List Value := [.int .i64 p.s.author, .int .i64 p.s.number, .string p.s.prev, .int .i64 p.s.time, .int .i64 p.s.kind, .int .i64 p.s.a, .int .i64 p.s.b, .int .i64 p.s.c, .slice p.A p.n p.c, .slice p.B p.m p.k, .string p.s.body, .int .i64 p.s.key, .string p.s.dig]
def Pl.arr (p : Pl) : Array Value := #[.int .i64 p.s.author, .int .i64 p.s.number, .string p.s.prev, .int .i64 p.s.time, .int .i64 p.s.kind, .int .i64 p.s.a, .int .i64 p.s.b, .int .i64 p.s.c, .slice p.A p.n p.c, .slice p.B p.m p.k, .string p.s.body, .int .i64 p.s.key, .string p.s.dig]
def noPl : Pl := ⟨noStm, none, 0, 0, none, 0, 0⟩
theorem Pl.value (p : Pl) : stmV p.s p.A p.n p.c p.B p.m p.k = .agg p.arr := rfl
theorem Pl.size (p : Pl) : p.arr.size = 13 := rfl
theorem Pl.one (p : Pl) : p.arr.all (·.oneCell') = true := by simp [Pl.arr, Value.oneCell']
theorem Pl.ones (p : Pl) : ∀ u ∈ p.arr.toList, u.oneCell' = true := fun u hu => by
  have h := p.one
  rw [Array.all_eq_true_iff_forall_mem] at h
  exact h u (by simpa using hu)
theorem Pl.info (p : Pl) : (Tryz.prog.info? 48).map (·.size) = some p.arr.size := by rw [p.size]; kernel_rfl
theorem Pl.list (p : Pl) : p.arr.toList = p.cells := rfl
def plsC (l : List Pl) : List Value := l.flatMap Pl.cells
theorem plsC_len (l : List Pl) : (plsC l).length = l.length * 13 := by
  induction l with
  | nil => rfl
  | cons s l ih => simp only [plsC, List.flatMap_cons, List.length_append, List.length_cons] at *; rw [ih]; show 13 + _ = _; omega
theorem plsC_app (l m : List Pl) : plsC (l ++ m) = plsC l ++ plsC m := by simp [plsC]
theorem plsC_one (l : List Pl) : ∀ u ∈ plsC l, u.oneCell' = true := by
  intro u hu
  simp only [plsC, List.mem_flatMap] at hu
  obtain ⟨s, _, hs⟩ := hu
  exact s.ones u (by rw [s.list]; exact hs)
theorem plsC_drop (l : List Pl) : ∀ k, (plsC l).drop (k * 13) = plsC (l.drop k) := by
  induction l with
  | nil => intro k; simp [plsC]
  | cons s l ih =>
    intro k
    cases k with
    | zero => rw [Nat.zero_mul]; rfl
    | succ k =>
      rw [List.drop_succ_cons, ← ih k]
      simp only [plsC, List.flatMap_cons, Pl.cells]
      rw [show (k + 1) * 13 = k * 13 + 13 by omega]
      rfl
theorem plsC_take (l : List Pl) (k : Nat) (h : k ≤ l.length) : (plsC l).take (k * 13) = plsC (l.take k) := by
  have hl : (plsC (l.take k)).length = k * 13 := by rw [plsC_len, List.length_take]; have : min k l.length = k := by omega
                                                    rw [this]
  conv => lhs; rw [← List.take_append_drop k l, plsC_app]
  rw [List.take_append_of_le_length (by omega), List.take_of_length_le (by omega)]
/-- Its lists read as they should. -/
def PlOk (w : World) (p : Pl) : Prop := IRow w p.A p.n p.c p.s.list ∧ PRow w p.B p.m p.k p.s.pins
theorem PlOk.later {w w' : World} {p : Pl} (h : PlOk w p) (hb : Below w.heap.size w w') : PlOk w' p := ⟨h.1.later hb, h.2.later hb⟩
theorem noPl_ok (w : World) : PlOk w noPl := ⟨Row.nilRow _ _, Row.nilRow _ _⟩
/-- A slice that reads as statements, whatever lists they have. -/
structure LRow (w : World) (A : Option Addr) (n c : Nat) (l : List Pl) : Prop where
  row : Row w A n c 13 (plsC l)
  ok : ∀ p ∈ l, PlOk w p
theorem LRow.len {w : World} {A : Option Addr} {n c : Nat} {l : List Pl} (h : LRow w A n c l) : l.length = n := by
  have := h.row.len; rw [plsC_len] at this; omega
theorem LRow.later {w w' : World} {A : Option Addr} {n c : Nat} {l : List Pl} (h : LRow w A n c l) (hb : Below w.heap.size w w') : LRow w' A n c l := ⟨Row.later h.row hb, fun p hp => (h.ok p hp).later hb⟩
theorem LRow.nil (w : World) : LRow w none 0 0 [] := ⟨Row.nilRow _ _, fun _ h => by cases h⟩
theorem LRow.take {w : World} {A : Option Addr} {n c : Nat} {l : List Pl} (h : LRow w A n c l) (k : Nat) (hk : k ≤ n) : LRow w A k c (l.take k) := by
  have h1 := Row.take h.row k hk
  rw [plsC_take l k (by rw [h.len]; exact hk)] at h1
  exact ⟨h1, fun p hp => h.ok p (List.mem_of_mem_take hp)⟩
theorem LRow.drop {w : World} {A : Option Addr} {n c : Nat} {l : List Pl} (h : LRow w A n c l) (k : Nat) (hk : k ≤ n) : LRow w (dropA A c k 13) (n - k) (c - k) (l.drop k) := by
  have h1 := Row.drop h.row k hk
  rw [plsC_drop] at h1
  exact ⟨h1, fun p hp => h.ok p (List.mem_of_mem_drop hp)⟩
theorem LRow.get {w : World} {A : Option Addr} {n c : Nat} {l : List Pl} (h : LRow w A n c l) (k : Nat) (hk : k < n) : l.getD k noPl ∈ l := by
  rw [List.getD_eq_getElem?_getD, List.getElem?_eq_getElem (by rw [h.len]; exact hk)]
  exact List.getElem_mem _
theorem LRow.at {w : World} {A : Option Addr} {n c : Nat} {l : List Pl} (h : LRow w A n c l) (k : Nat) (hk : k < n) : PlOk w (l.getD k noPl) := h.ok _ (h.get k hk)
/-- The cells of statement k. -/
theorem LRow.cells {w : World} {A : Option Addr} {n c : Nat} {l : List Pl} (h : LRow w A n c l) (k : Nat) (hk : k < n) :
    ∃ b off, A = some ⟨b, off, none⟩ ∧ ∀ j, j < (l.getD k noPl).arr.size → w.cell? ⟨b, off + k * 13 + j, none⟩ = (l.getD k noPl).arr[j]? := by
  obtain ⟨b, off, hA, hc⟩ := Row.form h.row (by omega)
  refine ⟨b, off, hA, fun j hj => ?_⟩
  rw [Pl.size] at hj
  have hl := h.len
  have h0 : (plsC l)[k * 13 + j]? = (plsC (l.drop k))[j]? := by rw [← plsC_drop, List.getElem?_drop]
  have h1 : l.drop k = l.getD k noPl :: l.drop (k + 1) := by
    rw [List.drop_eq_getElem_cons (by omega)]; simp [show k < l.length by omega]
  rw [Nat.add_assoc, hc _ (by omega), h0, h1]
  show ((l.getD k noPl).cells ++ plsC (l.drop (k + 1)))[j]? = _
  rw [List.getElem?_append_left (by show j < 13; exact hj), ← Pl.list]
  simp
/-- The same in every world that may come. -/
theorem LRow.futs {F : World → World → Prop} (hr : ∀ w, F w w) {W : World} {A : Option Addr} {n c : Nat} {l : List Pl} (hF : ∀ w', F W w' → Below W.heap.size W w') (h : LRow W A n c l) (k : Nat) (hk : k < n) :
    ∃ b off, A = some ⟨b, off, none⟩ ∧ ∀ x j, j < (l.getD k noPl).arr.size → (fut F W x).cell? ⟨b, off + k * 13 + j, none⟩ = (l.getD k noPl).arr[j]? := by
  obtain ⟨b, off, hA, _⟩ := h.cells k hk
  refine ⟨b, off, hA, fun x j hj => ?_⟩
  obtain ⟨b2, off2, hA2, hc2⟩ := (h.later (hF _ (fut_ok hr W x))).cells k hk
  rw [hA] at hA2
  injection hA2 with hA2
  injection hA2 with e1 e2
  subst e1 e2
  exact hc2 j hj
/-- Its lists do not lie in a slice's block. -/
def Clear (v : Value) (p : Pl) : Prop := (∀ ad, p.A = some ad → 0 < p.n → v.ownBlock ≠ some ad.block) ∧ (∀ ad, p.B = some ad → 0 < p.m → v.ownBlock ≠ some ad.block)
/-- Statements in a slice that the call itself has made. -/
structure LOwn (w : World) (B0 : Nat) (v : Value) (l : List Pl) : Prop where
  own : w.ownsRow B0 48 13 v l.length (plsC l)
  ok : ∀ p ∈ l, PlOk w p ∧ Clear v p
theorem LOwn.nil (w : World) (B0 : Nat) : LOwn w B0 (.slice none 0 0) [] := ⟨World.ownsRow_nil _ _ _ _, fun _ h => by cases h⟩
theorem LOwn.later {w w' : World} {B0 : Nat} {v : Value} {l : List Pl} (h : LOwn w B0 v l) (hb : Below w.heap.size w w') : LOwn w' B0 v l := ⟨own_below h.own hb (own_lt h.own), fun p hp => ⟨(h.ok p hp).1.later hb, (h.ok p hp).2⟩⟩
theorem LOwn.mono {w : World} {B0 B1 : Nat} {v : Value} {l : List Pl} (h : LOwn w B0 v l) (hB : B1 ≤ B0) : LOwn w B1 v l := ⟨own_mono h.own hB, h.ok⟩
theorem LOwn.row {w : World} {B0 : Nat} {v : Value} {l : List Pl} (h : LOwn w B0 v l) : ∃ A c, v = .slice A l.length c ∧ LRow w A l.length c l := by
  obtain ⟨A, c, hv, hr⟩ := Row.of_own h.own
  exact ⟨A, c, hv, hr, fun p hp => (h.ok p hp).1⟩
/-- What lies in live blocks is clear of a block that is new. -/
theorem PlOk.clear {w : World} {p : Pl} (h : PlOk w p) {v : Value} (hv : ∀ k, v.ownBlock = some k → w.heap.size ≤ k) : Clear v p :=
  ⟨fun ad hA h0 e => by have h1 := Row.lt h.1 (by omega) ad hA h0; have h2 := hv _ e; omega, fun ad hA h0 e => by have h1 := Row.lt h.2 (by omega) ad hA h0; have h2 := hv _ e; omega⟩
theorem PlOk.keep {w w' : World} {p : Pl} {v : Value} (h : PlOk w p) (hc : Clear v p) (hk : ∀ k, k < w.heap.size → v.ownBlock ≠ some k → w'.heap[k]? = w.heap[k]?) : PlOk w' p :=
  ⟨Row.keep h.1 fun ad hA h0 hlt => hk _ hlt (hc.1 ad hA h0), Row.keep h.2 fun ad hA h0 hlt => hk _ hlt (hc.2 ad hA h0)⟩
/-- Behind an append onto it: what it held, and what has come. -/
theorem LOwn.app {w w' : World} {B0 : Nat} {v v' : Value} {l m : List Pl} (h : LOwn w B0 v l) (hm : ∀ p ∈ m, PlOk w p ∧ Clear v p) (ho : w'.ownsRow B0 48 13 v' (l.length + m.length) (plsC l ++ plsC m))
    (hk : ∀ k, k < w.heap.size → v.ownBlock ≠ some k → w'.heap[k]? = w.heap[k]?) (hv : v'.ownBlock = v.ownBlock ∨ ∃ k, w.heap.size ≤ k ∧ v'.ownBlock = some k) : LOwn w' B0 v' (l ++ m) := by
  refine ⟨by rw [List.length_append, plsC_app]; exact ho, fun p hp => ?_⟩
  have h1 : PlOk w p ∧ Clear v p := by
    rcases List.mem_append.1 hp with hp | hp
    · exact h.ok p hp
    · exact hm p hp
  refine ⟨h1.1.keep h1.2 hk, ?_⟩
  rcases hv with e | ⟨k, hle, e⟩
  · unfold Clear; rw [e]; exact h1.2
  · exact h1.1.clear fun k' e' => by rw [e] at e'; injection e' with e'; omega
theorem LRow.clear {w : World} {A : Option Addr} {n c : Nat} {l : List Pl} (h : LRow w A n c l) {B0 : Nat} (hB : w.heap.size ≤ B0) {v : Value} (hv : ∀ k, v.ownBlock = some k → B0 ≤ k) : ∀ p ∈ l, Clear v p := fun p hp => (h.ok p hp).clear fun k e => Nat.le_trans hB (hv k e)
end Go.Proofs.YtnmpbjgccbnomaaGreat
/- The walk of fork.faces. -/
namespace Go.Proofs.YtnmpbjgccbnomaaGreat
open Go.RowKit
end Go.Proofs.YtnmpbjgccbnomaaGreat
/- A region that draws its order: an operation that builds a value is taken as readers are. Plain facts over any program. -/
namespace Go.Proofs.YtnmpbjgccbnomaaGreat
open Go.RowKit Go
def isVal (o : Oper) : Bool := isRead o || (match o.op with | .build .. => true | _ => false)
theorem val_value {P : Program} {o : Oper} (h : isVal o = true) {ρ : Operand → Value} {w w' : World} {n : Next} (hr : (execOp ρ o).run P w = .ok n w') : ∃ v, n = .value v := by
  unfold isVal at h
  rw [Bool.or_eq_true] at h
  rcases h with h | h
  · exact read_value h hr
  · obtain ⟨dst, op, t, pos, after, g⟩ := o
    cases op with
    | build t parts => exact run_v hr
    | _ => cases h
section
variable {P : Program} {md : Region.Mode} {F : World → World → Prop}
theorem val_yields {ops : Array Oper} {C : World → Prop} {o : Oper} {a : Act} {v : Value} (ho : isVal o = true) (hw : Region.wanted o (yielded ops a.tmps) = true) (h : ∀ w, C w → o.quietAt P a C w v) : YieldsIf P ops C o v a := by
  refine .inl ⟨hw, fun w hC => ?_⟩
  have h1 := h w hC
  unfold Oper.quietAt at h1
  cases hr : (execOp a.eval o).run P w with
  | halt x w' => rw [hr] at h1; exact h1.elim
  | ok n w' =>
    obtain ⟨u, rfl⟩ := val_value ho hr
    rw [hr] at h1
    obtain ⟨rfl, rfl⟩ := h1
    rfl
/-- A value is built, whatever else may come up. -/
theorem flow_val {l : List Oper} {Q : Exit → Act → World → Prop} (hr : ∀ w, F w w) (hs : Region.noSelect l.toArray = true) {fuel : Nat} (i : Nat) {listed : Array Bool} {a : Act} {w : World}
    (hB : ((Region.ready md l.toArray listed).contains i && Region.free md l.toArray listed i && isVal (pick l i) && decide (i < l.length)) = true)
    (h : wpQuiet P l.toArray (Futs F w) (fun a' => wpAnyH P md l.toArray (NoPanic Q) (Futs F w) fuel (listed.setIfInBounds i true) a' w) [pick l i] a) :
    wpAnyH P md l.toArray (NoPanic Q) (Futs F w) (fuel + 1) listed a w := by
  simp only [Bool.and_eq_true, decide_eq_true_eq] at hB
  obtain ⟨⟨⟨h1, h2⟩, h3⟩, h4⟩ := hB
  unfold wpQuiet at h
  split at h
  · rename_i hw
    obtain ⟨v, hv, hn⟩ := h
    exact wpAnyH_take (pick_at h4) hs h2 h1 (fun _ _ _ h => h) (val_yields h3 hw hv) (Futs.of (hr w)) hn
  · rename_i hw
    exact wpAnyH_take (pick_at h4) hs h2 h1 (fun _ _ _ h => h) (.inr ⟨by simpa using hw, rfl⟩) (Futs.of (hr w)) h
end
end Go.Proofs.YtnmpbjgccbnomaaGreat
/- The walk of fork.isTwoFaced. -/
namespace Go.Proofs.YtnmpbjgccbnomaaGreat
open Go.RowKit
end Go.Proofs.YtnmpbjgccbnomaaGreat
/- The walk of fork.Check. -/
namespace Go.Proofs.YtnmpbjgccbnomaaGreat
open Go.RowKit
end Go.Proofs.YtnmpbjgccbnomaaGreat
/- The walk of trustflowref02's rest. -/
namespace Go.Proofs.YtnmpbjgccbnomaaGreat
open Go.RowKit
end Go.Proofs.YtnmpbjgccbnomaaGreat
/- The walks of package wire: what takes. -/
namespace Go.Proofs.YtnmpbjgccbnomaaGreat
open Go.RowKit
theorem BRow.drop {w : World} {A : Option Addr} {n c : Nat} {us : List UInt8} (h : BRow w A n c us) (k : Nat) (hk : k ≤ n) : BRow w (dropA A c k 1) (n - k) (c - k) (us.drop k) := by
  have := Row.drop h k hk
  rw [Nat.mul_one, bytesV_drop] at this
  exact this
theorem BRow.take {w : World} {A : Option Addr} {n c : Nat} {us : List UInt8} (h : BRow w A n c us) (k : Nat) (hk : k ≤ n) : BRow w A k c (us.take k) := by
  have := Row.take h k hk
  rw [Nat.mul_one, bytesV_take] at this
  exact this
end Go.Proofs.YtnmpbjgccbnomaaGreat
/- The walks of package wire: TakeText, TakeInts. -/
namespace Go.Proofs.YtnmpbjgccbnomaaGreat
open Go.RowKit
/-- Numbers in a slice that the call itself has made. -/
def IOwn (w : World) (B : Nat) (v : Value) (l : List Int) : Prop := w.ownsRow B 3 1 v l.length (intsV l)
theorem IOwn.row {w : World} {B : Nat} {v : Value} {l : List Int} (h : IOwn w B v l) : ∃ A c, v = .slice A l.length c ∧ IRow w A l.length c l := Row.of_own h
end Go.Proofs.YtnmpbjgccbnomaaGreat
