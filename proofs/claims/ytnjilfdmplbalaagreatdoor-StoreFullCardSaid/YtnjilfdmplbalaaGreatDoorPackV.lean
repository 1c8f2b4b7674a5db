import Derived.Test.YtnjilfdmplbalaaGreatDoorPackC
import Derived.Lib.Bytealg
import Derived.Lib.Small
import Derived.Lib.AppendZerosOnto
import Derived.Sort.Statements
import Derived.Shelf.SlSortCmp.Insertion
import Derived.Shelf.SlSortCmp.WholeK
import Derived.Deep.MidRow
/- The walks of cmp.Or, cmp.Compare, strings.Compare. -/
namespace Go.Proofs.YtnjilfdmplbalaaGreatDoor
open Go.RowKit
/-- The first number that is not zero. -/
def firstNZ : List Int → Int
  | [] => 0
  | x :: l => if x = 0 then firstNZ l else x
theorem firstNZ_drop (l : List Int) (j : Nat) (h : ∀ i, i < j → l.getD i 0 = 0) (hj : j ≤ l.length) : firstNZ l = firstNZ (l.drop j) := by
  induction j with
  | zero => rfl
  | succ j ih =>
    rw [ih (fun i hi => h i (by omega)) (by omega), List.drop_eq_getElem_cons (show j < l.length by omega)]
    have h0 := h j (by omega)
    rw [List.getD_eq_getElem?_getD, List.getElem?_eq_getElem (by omega)] at h0
    exact if_pos h0
set_option maxRecDepth 100000 in
set_option maxHeartbeats 1000000 in
theorem or_any (A : Option Addr) (n c : Nat) (l : List Int) (w : World) (hl : IRow w A n c l) (hn : n ≤ 1000000) :
    Calls Tryz.prog 79 #[.slice A n c] w fun e w' => e = .returned (.int .i64 (firstNZ l)) ∧ w' = w := by
  have HL := Lib.hid hl; have HLN := Lib.hid hl.len
  clear hl
  go_enter Tryz.func79, Tryz.ntmps79
  go_wp2
  go_loopw [8] (fun i wr => ∃ j : Nat, j ≤ n ∧ i = .int .i64 j ∧ wr = w ∧ Hid (∀ i, i < j → l.getD i 0 = 0)) (fun i _ => n - (intOf i).toNat)
  case atStart => exact ⟨0, Nat.zero_le _, rfl, rfl, Lib.hid fun _ h => absurd h (Nat.not_lt_zero _)⟩
  case round =>
    obtain ⟨j, hj, rfl, rfl, HQ⟩ := hrel
    by_cases hlt : j < n
    · obtain ⟨ab, off, hA, hc0⟩ := HL.out.cell j hlt
      subst hA
      by_cases hz : l.getD j 0 = 0
      · rw [hz] at hc0
        have HZ := Lib.hid hz; clear hz
        go_wp2
        refine ⟨⟨j + 1, hlt, by go_num, by simp, Lib.hid fun i hi => ?_⟩, by simp [intOf]; omega⟩
        by_cases h : i = j
        · rw [h]; exact HZ.out
        · exact HQ.out i (by omega)
      · have HZ : Hid (firstNZ l = l.getD j 0) := Lib.hid (by
          rw [firstNZ_drop l j HQ.out (by have := HLN.out; omega), List.drop_eq_getElem_cons (show j < l.length by have := HLN.out; omega)]
          have e : l.getD j 0 = l[j]'(by have := HLN.out; omega) := by rw [List.getD_eq_getElem?_getD, List.getElem?_eq_getElem (by have := HLN.out; omega)]; rfl
          rw [e] at hz ⊢
          show (if l[j]'_ = 0 then _ else _) = _
          rw [if_neg hz])
        generalize l.getD j 0 = x at hc0 HZ hz
        have hx : (x != 0) = true := by simpa using hz
        clear hz
        go_wp2
        go_ret
        exact ⟨by rw [HZ.out]; rfl, rfl⟩
    · have HE : Hid (j = n) := by unfold Hid; omega
      go_wp2
      go_ret
      refine ⟨?_, rfl⟩
      rw [firstNZ_drop l j HQ.out (by have := HLN.out; omega), List.drop_eq_nil_of_le (by have := HLN.out; have := HE.out; omega)]
      rfl
set_option maxHeartbeats 1000000 in
theorem cmpInt_any (x y : Int) (w : World) :
    Calls Tryz.prog 80 #[.int .i64 x, .int .i64 y] w fun e w' => e = .returned (.int .i64 (Lib.compareInt x y)) ∧ w' = w := by
  go_enter Tryz.func80, Tryz.ntmps80
  go_wp2
  all_goals (go_ret; refine ⟨?_, rfl⟩; unfold Lib.compareInt; (repeat' split) <;> first | rfl | (exfalso; omega))
end Go.Proofs.YtnjilfdmplbalaaGreatDoor
/- The walk of store's compare. -/
namespace Go.Proofs.YtnjilfdmplbalaaGreatDoor
open Go.RowKit
set_option maxHeartbeats 1000000 in
set_option maxRecDepth 100000 in
theorem cmpText_any (a b : ByteArray) (w : World) :
    Calls Tryz.prog 109 #[.string a, .string b] w fun e w' => e = .returned (.int .i64 (Lib.compareBytes a.data.toList b.data.toList)) ∧ w' = w := by
  go_enter Tryz.func109, Tryz.ntmps109
  go_wp2
  rw [run_callFunc_extern Tryz.func131 (by kernel_rfl) (by kernel_rfl) (by kernel_rfl) (e := Extern.BytealgCompare.compare) (by kernel_rfl), Lib.run_compareString]
  simp only [Result.andThen]
  rw [Oper.upon_value]
  go_wp2
  go_ret
  exact ⟨rfl, rfl⟩
set_option maxHeartbeats 1000000 in
theorem compareText_any (a b : ByteArray) (w : World) :
    Calls Tryz.prog 81 #[.string a, .string b] w fun e w' => e = .returned (.int .i64 (Lib.compareBytes a.data.toList b.data.toList)) ∧ w' = w := by
  go_enter Tryz.func81, Tryz.ntmps81
  go_wp2_with fail
  refine (cmpText_any _ _ _).mono ?_
  rintro e w1 ⟨rfl, rfl⟩
  go_wp2_with fail
  go_ret
  exact ⟨rfl, rfl⟩
/-- The order of statements in a store, by what their seals say: less than 0, 0, or more. -/
def cmpS (a b : Stm) : Int := firstNZ [Lib.compareInt a.author b.author, Lib.compareInt a.number b.number, Lib.compareBytes a.dig.data.toList b.dig.data.toList]
/-- Blocks and draws may have come; nothing has turned. -/
def Laid (a b : World) : Prop := Below a.heap.size a b ∧ a.drawn ≤ b.drawn
theorem Laid.refl (a : World) : Laid a a := ⟨Below.refl _ _, Nat.le_refl _⟩
theorem Laid.trans {a b c : World} (h : Laid a b) (k : Laid b c) : Laid a c := ⟨h.1.trans (k.1.mono h.1.size), Nat.le_trans h.2 k.2⟩
theorem Laid.alloc (a : World) (o : Obj) : Laid a (a.alloc o) := ⟨one_new a o, Nat.le_refl _⟩
theorem Laid.drew (a : World) : Laid a a.drew := ⟨(Below.refl _ _).drew, Nat.le_succ _⟩
set_option maxRecDepth 100000 in
set_option maxHeartbeats 1000000 in
theorem compare_any (s : Stm) (A : Option Addr) (n c : Nat) (B : Option Addr) (m k : Nat) (o : Stm) (A2 : Option Addr) (n2 c2 : Nat) (B2 : Option Addr) (m2 k2 : Nat) (w : World) :
    Calls Tryz.prog 44 #[stmV s A n c B m k, stmV o A2 n2 c2 B2 m2 k2] w fun e w' => e = .returned (.int .i64 (cmpS s o)) ∧ Laid w w' := by
  obtain ⟨author, number, prev, time, kind, a, b, cc, list, pins, body, key, dig⟩ := s
  obtain ⟨y0, y1, y2, y3, y4, y5, y6, y7, y8, y9, y10, y11, y12⟩ := o
  unfold stmV cmpS
  simp only
  go_enter Tryz.func44, Tryz.ntmps44
  go_wp2_with fail
  have HB : Hid (Laid w ((w.alloc (.cells #[.int .i64 author, .int .i64 number, .string prev, .int .i64 time, .int .i64 kind, .int .i64 a, .int .i64 b, .int .i64 cc, .slice A n c, .slice B m k, .string body, .int .i64 key, .string dig] 30)).alloc (.cells #[.int .i64 y0, .int .i64 y1, .string y2, .int .i64 y3, .int .i64 y4, .int .i64 y5, .int .i64 y6, .int .i64 y7, .slice A2 n2 c2, .slice B2 m2 k2, .string y10, .int .i64 y11, .string y12] 30)).drew) := Lib.hid (((Laid.alloc w _).trans (Laid.alloc _ _)).trans (Laid.drew _))
  have HX : Hid (((w.alloc (.cells #[.int .i64 author, .int .i64 number, .string prev, .int .i64 time, .int .i64 kind, .int .i64 a, .int .i64 b, .int .i64 cc, .slice A n c, .slice B m k, .string body, .int .i64 key, .string dig] 30)).alloc (.cells #[.int .i64 y0, .int .i64 y1, .string y2, .int .i64 y3, .int .i64 y4, .int .i64 y5, .int .i64 y6, .int .i64 y7, .slice A2 n2 c2, .slice B2 m2 k2, .string y10, .int .i64 y11, .string y12] 30)).drew.heap[w.heap.size]? = some (.cells #[.int .i64 author, .int .i64 number, .string prev, .int .i64 time, .int .i64 kind, .int .i64 a, .int .i64 b, .int .i64 cc, .slice A n c, .slice B m k, .string body, .int .i64 key, .string dig] 30 (0, 0))) := Lib.hid ((Below.heap_alloc _ _ _ (by simp)).trans (heap_alloc_new _ _))
  have HY : Hid (((w.alloc (.cells #[.int .i64 author, .int .i64 number, .string prev, .int .i64 time, .int .i64 kind, .int .i64 a, .int .i64 b, .int .i64 cc, .slice A n c, .slice B m k, .string body, .int .i64 key, .string dig] 30)).alloc (.cells #[.int .i64 y0, .int .i64 y1, .string y2, .int .i64 y3, .int .i64 y4, .int .i64 y5, .int .i64 y6, .int .i64 y7, .slice A2 n2 c2, .slice B2 m2 k2, .string y10, .int .i64 y11, .string y12] 30)).drew.heap[w.heap.size + 1]? = some (.cells #[.int .i64 y0, .int .i64 y1, .string y2, .int .i64 y3, .int .i64 y4, .int .i64 y5, .int .i64 y6, .int .i64 y7, .slice A2 n2 c2, .slice B2 m2 k2, .string y10, .int .i64 y11, .string y12] 30 (0, 0))) := Lib.hid (by
    have h := heap_alloc_new (w.alloc (.cells #[.int .i64 author, .int .i64 number, .string prev, .int .i64 time, .int .i64 kind, .int .i64 a, .int .i64 b, .int .i64 cc, .slice A n c, .slice B m k, .string body, .int .i64 key, .string dig] 30)) (.cells #[.int .i64 y0, .int .i64 y1, .string y2, .int .i64 y3, .int .i64 y4, .int .i64 y5, .int .i64 y6, .int .i64 y7, .slice A2 n2 c2, .slice B2 m2 k2, .string y10, .int .i64 y11, .string y12] 30)
    rw [show (w.alloc (.cells #[.int .i64 author, .int .i64 number, .string prev, .int .i64 time, .int .i64 kind, .int .i64 a, .int .i64 b, .int .i64 cc, .slice A n c, .slice B m k, .string body, .int .i64 key, .string dig] 30)).heap.size = w.heap.size + 1 by simp] at h
    exact h)
  refine wp_region_grow (by kernel_rfl) Laid Laid.refl (fun _ _ _ => Laid.trans) [19] [([0, 1, 2, 3, 5, 6, 7, 8, 10, 11, 12, 13, 14, 15], 4), ([], 9), ([], 16), ([], 17), ([], 18)] (by kernel_rfl) (by kernel_rfl) (by kernel_rfl) ?_
  simp only [List.map_cons, List.map_nil, pick, List.getD_cons_zero, List.getD_cons_succ]
  generalize ((w.alloc (.cells #[.int .i64 author, .int .i64 number, .string prev, .int .i64 time, .int .i64 kind, .int .i64 a, .int .i64 b, .int .i64 cc, .slice A n c, .slice B m k, .string body, .int .i64 key, .string dig] 30)).alloc (.cells #[.int .i64 y0, .int .i64 y1, .string y2, .int .i64 y3, .int .i64 y4, .int .i64 y5, .int .i64 y6, .int .i64 y7, .slice A2 n2 c2, .slice B2 m2 k2, .string y10, .int .i64 y11, .string y12] 30)).drew = w1 at HB HX HY ⊢
  have hlx : w.heap.size < w1.heap.size := (Array.getElem?_eq_some_iff.1 HX.out).1
  have hly : w.heap.size + 1 < w1.heap.size := (Array.getElem?_eq_some_iff.1 HY.out).1
  obtain ⟨hf0, hf1, hf2, hf3, hf4, hf5, hf6, hf7, hf8, hf9, hf10, hf11, hf12⟩ := stm_futs (F := Laid) Laid.refl (s := ⟨author, number, prev, time, kind, a, b, cc, list, pins, body, key, dig⟩) (W := w1) (fun w' h => h.1.block _ hlx) HX.out
  obtain ⟨hg0, hg1, hg2, hg3, hg4, hg5, hg6, hg7, hg8, hg9, hg10, hg11, hg12⟩ := stm_futs (F := Laid) Laid.refl (s := ⟨y0, y1, y2, y3, y4, y5, y6, y7, y8, y9, y10, y11, y12⟩) (W := w1) (fun w' h => h.1.block _ hly) HY.out
  refine wpGrow_cons ?_
  repeat (go_big_quiet_step (fail))
  refine wpQuiet_nil ?_
  clear hf0 hf1 hf2 hf3 hf4 hf5 hf6 hf7 hf8 hf9 hf10 hf11 hf12 hg0 hg1 hg2 hg3 hg4 hg5 hg6 hg7 hg8 hg9 hg10 hg11 hg12 HX HY hlx hly
  go_wp2_with fail
  refine (cmpInt_any _ _ _).mono ?_
  rintro e w2 ⟨rfl, rfl⟩
  go_wp2_with fail
  refine pieceEnd_normal ⟨Laid.refl _, ?_⟩
  refine wpGrow_cons ?_
  refine wpQuiet_nil ?_
  go_wp2_with fail
  refine (cmpInt_any _ _ _).mono ?_
  rintro e w3 ⟨rfl, rfl⟩
  go_wp2_with fail
  refine pieceEnd_normal ⟨Laid.refl _, ?_⟩
  refine wpGrow_cons ?_
  refine wpQuiet_nil ?_
  go_wp2_with fail
  refine (compareText_any _ _ _).mono ?_
  rintro e w4 ⟨rfl, rfl⟩
  go_wp2_with fail
  refine pieceEnd_normal ⟨Laid.refl _, ?_⟩
  generalize hr1 : Lib.compareInt author y0 = r1
  generalize hr2 : Lib.compareInt number y1 = r2
  generalize hr3 : Lib.compareBytes dig.data.toList y12.data.toList = r3
  have HR := Lib.hid (And.intro hr1 (And.intro hr2 hr3)); clear hr1 hr2 hr3
  refine wpGrow_cons ?_
  refine wpQuiet_nil ?_
  go_wp2_with fail
  refine pieceEnd_normal ⟨Laid.alloc _ _, ?_⟩
  have HI := Lib.hid (show IRow (w4.alloc (.cells #[.int .i64 r1, .int .i64 r2, .int .i64 r3] 3)) (some ⟨w4.heap.size, 0, none⟩) 3 3 [r1, r2, r3] from Row.of_block (heap_alloc_new _ _) rfl)
  have HB2 := Lib.hid (HB.out.trans (Laid.alloc w4 (.cells #[.int .i64 r1, .int .i64 r2, .int .i64 r3] 3)))
  refine wpGrow_cons ?_
  refine wpQuiet_nil ?_
  go_wp2_with fail
  refine (or_any _ _ _ _ _ HI.out (by omega)).mono ?_
  rintro e w5 ⟨rfl, rfl⟩
  go_wp2_with fail
  refine pieceEnd_normal ⟨Laid.refl _, ?_⟩
  refine wpGrow_nil ?_
  repeat (go_big_quiet_step (fail))
  refine wpQuiet_nil ?_
  go_wp2_with fail
  go_ret
  exact ⟨by rw [HR.out.1, HR.out.2.1, HR.out.2.2]; rfl, HB2.out⟩
end Go.Proofs.YtnjilfdmplbalaaGreatDoor
/- Rows of statements read in drawn regions; the walk of store's ascend. -/
namespace Go.Proofs.YtnjilfdmplbalaaGreatDoor
open Go.RowKit
/-- The cells of statement k, in every world that may come. -/
theorem SRow.futs {F : World → World → Prop} (hr : ∀ w, F w w) {W : World} {A : Option Addr} {n c : Nat} {l : List Stm} (hF : ∀ w', F W w' → Later W w') (h : SRow W A n c l) (k : Nat) (hk : k < n) :
    ∃ b off, A = some ⟨b, off, none⟩ ∧ (∀ x, (fut F W x).cell? ⟨b, off + k * 13, none⟩ = some (.int .i64 (l.getD k noStm).author)) ∧ (∀ x, (fut F W x).cell? ⟨b, off + k * 13 + 1, none⟩ = some (.int .i64 (l.getD k noStm).number)) ∧ (∀ x, (fut F W x).cell? ⟨b, off + k * 13 + 2, none⟩ = some (.string (l.getD k noStm).prev)) ∧ (∀ x, (fut F W x).cell? ⟨b, off + k * 13 + 3, none⟩ = some (.int .i64 (l.getD k noStm).time)) ∧ (∀ x, (fut F W x).cell? ⟨b, off + k * 13 + 4, none⟩ = some (.int .i64 (l.getD k noStm).kind)) ∧ (∀ x, (fut F W x).cell? ⟨b, off + k * 13 + 5, none⟩ = some (.int .i64 (l.getD k noStm).a)) ∧ (∀ x, (fut F W x).cell? ⟨b, off + k * 13 + 6, none⟩ = some (.int .i64 (l.getD k noStm).b)) ∧ (∀ x, (fut F W x).cell? ⟨b, off + k * 13 + 7, none⟩ = some (.int .i64 (l.getD k noStm).c)) ∧ (∀ x, (fut F W x).cell? ⟨b, off + k * 13 + 8, none⟩ = some (.slice none 0 0)) ∧ (∀ x, (fut F W x).cell? ⟨b, off + k * 13 + 9, none⟩ = some (.slice none 0 0)) ∧ (∀ x, (fut F W x).cell? ⟨b, off + k * 13 + 10, none⟩ = some (.string (l.getD k noStm).body)) ∧ (∀ x, (fut F W x).cell? ⟨b, off + k * 13 + 11, none⟩ = some (.int .i64 (l.getD k noStm).key)) ∧ (∀ x, (fut F W x).cell? ⟨b, off + k * 13 + 12, none⟩ = some (.string (l.getD k noStm).dig)) := by
  obtain ⟨b, off, hA, hc⟩ := SRow.cells h k hk
  have h2 : ∀ x, (fut F W x).cell? ⟨b, off + k * 13, none⟩ = some (.int .i64 (l.getD k noStm).author) ∧ (fut F W x).cell? ⟨b, off + k * 13 + 1, none⟩ = some (.int .i64 (l.getD k noStm).number) ∧ (fut F W x).cell? ⟨b, off + k * 13 + 2, none⟩ = some (.string (l.getD k noStm).prev) ∧ (fut F W x).cell? ⟨b, off + k * 13 + 3, none⟩ = some (.int .i64 (l.getD k noStm).time) ∧ (fut F W x).cell? ⟨b, off + k * 13 + 4, none⟩ = some (.int .i64 (l.getD k noStm).kind) ∧ (fut F W x).cell? ⟨b, off + k * 13 + 5, none⟩ = some (.int .i64 (l.getD k noStm).a) ∧ (fut F W x).cell? ⟨b, off + k * 13 + 6, none⟩ = some (.int .i64 (l.getD k noStm).b) ∧ (fut F W x).cell? ⟨b, off + k * 13 + 7, none⟩ = some (.int .i64 (l.getD k noStm).c) ∧ (fut F W x).cell? ⟨b, off + k * 13 + 8, none⟩ = some (.slice none 0 0) ∧ (fut F W x).cell? ⟨b, off + k * 13 + 9, none⟩ = some (.slice none 0 0) ∧ (fut F W x).cell? ⟨b, off + k * 13 + 10, none⟩ = some (.string (l.getD k noStm).body) ∧ (fut F W x).cell? ⟨b, off + k * 13 + 11, none⟩ = some (.int .i64 (l.getD k noStm).key) ∧ (fut F W x).cell? ⟨b, off + k * 13 + 12, none⟩ = some (.string (l.getD k noStm).dig) := fun x => by
    obtain ⟨b2, off2, hA2, hc2⟩ := SRow.cells (h.later (hF _ (fut_ok hr W x))) k hk
    rw [hA] at hA2
    injection hA2 with hA2
    injection hA2 with e1 e2
    subst e1 e2
    exact hc2
  refine ⟨b, off, hA, fun x => (h2 x).1, fun x => (h2 x).2.1, fun x => (h2 x).2.2.1, fun x => (h2 x).2.2.2.1, fun x => (h2 x).2.2.2.2.1, fun x => (h2 x).2.2.2.2.2.1, fun x => (h2 x).2.2.2.2.2.2.1, fun x => (h2 x).2.2.2.2.2.2.2.1, fun x => (h2 x).2.2.2.2.2.2.2.2.1, fun x => (h2 x).2.2.2.2.2.2.2.2.2.1, fun x => (h2 x).2.2.2.2.2.2.2.2.2.2.1, fun x => (h2 x).2.2.2.2.2.2.2.2.2.2.2.1, fun x => (h2 x).2.2.2.2.2.2.2.2.2.2.2.2⟩
/-- Each statement of a list stands before the one behind it. -/
def Asc (l : List Stm) : Prop := ∀ i, 1 ≤ i → i < l.length → cmpS (l.getD (i - 1) noStm) (l.getD i noStm) < 0
set_option maxRecDepth 100000 in
set_option maxHeartbeats 2000000 in
theorem ascend_any (A : Option Addr) (n c : Nat) (l : List Stm) (w : World) (hl : SRow w A n c l) (hn : n ≤ 1000000) (ha : Asc l) :
    Calls Tryz.prog 53 #[.slice A n c] w (SaysL (.bool true) w) := by
  have HL := Lib.hid hl; have HLN := Lib.hid hl.len; have HA := Lib.hid ha
  clear hl ha
  go_enter Tryz.func53, Tryz.ntmps53
  go_wp2
  go_loopw [3] (fun i wr => ∃ j : Nat, 1 ≤ j ∧ (j ≤ n ∨ j = 1) ∧ i = .int .i64 j ∧ Hid (Below w.heap.size w wr)) (fun i _ => n - (intOf i).toNat)
  case atStart => exact ⟨1, Nat.le_refl _, .inr rfl, rfl, Lib.hid (Below.refl _ _)⟩
  case round =>
    obtain ⟨j, hj1, hj, rfl, HQ⟩ := hrel
    by_cases hlt : j < n
    · have HC := Lib.hid (HA.out j hj1 (by rw [HLN.out]; exact hlt))
      have HL2 : Hid (SRow wr.drew A n c l) := Lib.hid (HL.out.later (HQ.out.drew))
      have HB2 : Hid (Below w.heap.size w wr.drew) := Lib.hid HQ.out.drew
      obtain ⟨b, off, hA, hf0, hf1, hf2, hf3, hf4, hf5, hf6, hf7, hf8, hf9, hf10, hf11, hf12⟩ := SRow.futs (F := Later) Later.refl (fun _ h => h) HL2.out (j - 1) (by omega)
      obtain ⟨b2, off2, hA2, hg0, hg1, hg2, hg3, hg4, hg5, hg6, hg7, hg8, hg9, hg10, hg11, hg12⟩ := SRow.futs (F := Later) Later.refl (fun _ h => h) HL2.out j hlt
      subst hA
      injection hA2 with hA2
      injection hA2 with e1 e2
      subst e1 e2
      have hj2 : ((j : Int) - 1) = ((j - 1 : Nat) : Int) := by omega
      have HCM : Hid (∀ x, Calls Tryz.prog 44 #[stmV (l.getD (j - 1) noStm) none 0 0 none 0 0, stmV (l.getD j noStm) none 0 0 none 0 0] x fun e w' => e = .returned (.int .i64 (cmpS (l.getD (j - 1) noStm) (l.getD j noStm))) ∧ Laid x w') := Lib.hid fun x => compare_any _ _ _ _ _ _ _ _ _ _ _ _ _ _ x
      unfold stmV at HCM
      generalize l.getD (j - 1) noStm = s at *
      generalize l.getD j noStm = o at *
      generalize cmpS s o = r at HC HCM
      go_wp2_with fail
      refine wp_region_grow (by kernel_rfl) Later Later.refl (fun _ _ _ => Later.trans) [10] [([0, 1, 2, 3, 4, 5, 6, 7, 8], 9)] (by kernel_rfl) (by kernel_rfl) (by kernel_rfl) ?_
      simp only [List.map_cons, List.map_nil, pick, List.getD_cons_zero, List.getD_cons_succ]
      generalize wr.drew = w1 at *
      refine wpGrow_cons ?_
      repeat (go_big_quiet_step (fail))
      refine wpQuiet_nil ?_
      clear hf0 hf1 hf2 hf3 hf4 hf5 hf6 hf7 hf8 hf9 hf10 hf11 hf12 hg0 hg1 hg2 hg3 hg4 hg5 hg6 hg7 hg8 hg9 hg10 hg11 hg12
      go_wp2_with fail
      refine (HCM.out w1).mono ?_
      rintro e w2 ⟨rfl, hb⟩
      have HB3 := Lib.hid (HB2.out.trans (hb.1.mono HB2.out.size)); have HF := Lib.hid hb.1
      clear hb
      go_wp2_with fail
      refine pieceEnd_normal ⟨HF.out, ?_⟩
      have hge : decide (0 ≤ r) = false := decide_eq_false (by have := HC.out; omega)
      refine wpGrow_nil ?_
      repeat (go_big_quiet_step (fail))
      refine wpQuiet_nil ?_
      go_wp2_with fail
      exact ⟨⟨j + 1, by omega, .inl (by omega), by go_num, HB3⟩, by simp [intOf]; omega⟩
    · go_wp2_with fail
      go_ret
      exact ⟨rfl, HQ.out⟩
end Go.Proofs.YtnjilfdmplbalaaGreatDoor
/- The walks of store's isWrong, of slices.ContainsFunc with it, of store's Valid. -/
namespace Go.Proofs.YtnjilfdmplbalaaGreatDoor
open Go.RowKit
/-- A statement that a store can have, without lists. -/
structure Well (s : Stm) : Prop where
  check : checkV s = 0
  sealed : sealedB s = true
  bare : s.list = [] ∧ s.pins = [] ∧ Small s
set_option maxRecDepth 100000 in
set_option maxHeartbeats 2000000 in
theorem isWrong_any (s : Stm) (hs : Well s) (w : World) (hr : Rounds w) : Calls Tryz.prog 55 #[stmV s none 0 0 none 0 0] w (SaysL (.bool false) w) := by
  have HC1 : Hid (∀ x, Below w.heap.size w x → Calls Tryz.prog 41 #[stmV s none 0 0 none 0 0] x (SaysL (.int .i64 0) x)) := Lib.hid fun x h => by
    have := check_any s none 0 0 none 0 0 x (by rw [hs.bare.1]; exact Row.nilRow _ _) (by rw [hs.bare.2.1]; exact Row.nilRow _ _) (by omega) (by omega) (by have := hs.bare.2.2.body; omega)
    rw [hs.check] at this; exact this
  have HC2 : Hid (∀ x, Below w.heap.size w x → Calls Tryz.prog 42 #[stmV s none 0 0 none 0 0] x (SaysL (.bool true) x)) := Lib.hid fun x h => by
    have := sealed_any s none 0 0 none 0 0 x (by rw [hs.bare.1]; exact Row.nilRow _ _) (by rw [hs.bare.2.1]; exact Row.nilRow _ _) hs.bare.2.2 (hr.later h)
    rw [hs.sealed] at this; exact this
  clear hs hr
  unfold stmV at HC1 HC2 ⊢
  have HB := Lib.hid (one_new w (.cells #[.int .i64 s.author, .int .i64 s.number, .string s.prev, .int .i64 s.time, .int .i64 s.kind, .int .i64 s.a, .int .i64 s.b, .int .i64 s.c, .slice none 0 0, .slice none 0 0, .string s.body, .int .i64 s.key, .string s.dig] 30))
  have HX := Lib.hid (heap_alloc_new w (.cells #[.int .i64 s.author, .int .i64 s.number, .string s.prev, .int .i64 s.time, .int .i64 s.kind, .int .i64 s.a, .int .i64 s.b, .int .i64 s.c, .slice none 0 0, .slice none 0 0, .string s.body, .int .i64 s.key, .string s.dig] 30))
  have hx := HX.out
  obtain ⟨hc0, hc1, hc2, hc3, hc4, hc5, hc6, hc7, hc8, hc9, hc10, hc11, hc12⟩ := stm_cells (A := none) (n := 0) (c := 0) (B := none) (m := 0) (k := 0) (s := s) hx
  clear hx
  go_enter Tryz.func55, Tryz.ntmps55
  go_wp2_with fail
  refine (HC1.out _ HB.out).mono ?_
  rintro e w1 ⟨rfl, hb⟩
  have HX1 := Lib.hid ((hb.block _ (Array.getElem?_eq_some_iff.1 HX.out).1).trans HX.out)
  have HB1 := Lib.hid (HB.out.trans (hb.mono HB.out.size))
  clear hc0 hc1 hc2 hc3 hc4 hc5 hc6 hc7 hc8 hc9 hc10 hc11 hc12 hb HX HB HC1
  have hx := HX1.out
  obtain ⟨hc0, hc1, hc2, hc3, hc4, hc5, hc6, hc7, hc8, hc9, hc10, hc11, hc12⟩ := stm_cells (A := none) (n := 0) (c := 0) (B := none) (m := 0) (k := 0) (s := s) hx
  clear hx
  go_wp2_with fail
  refine (HC2.out _ HB1.out).mono ?_
  rintro e w2 ⟨rfl, hb⟩
  have HB2 := Lib.hid (HB1.out.trans (hb.mono HB1.out.size))
  clear hc0 hc1 hc2 hc3 hc4 hc5 hc6 hc7 hc8 hc9 hc10 hc11 hc12 hb HX1 HB1 HC2
  go_wp2_with fail
  go_ret
  exact ⟨rfl, HB2.out⟩
set_option maxRecDepth 100000 in
set_option maxHeartbeats 2000000 in
theorem indexWrong_any (A : Option Addr) (n c : Nat) (l : List Stm) (w : World) (hl : SRow w A n c l) (hn : n ≤ 1000000) (hw : ∀ s ∈ l, Well s) (hr : Rounds w) :
    Calls Tryz.prog 89 #[.slice A n c, .func (.func 55) #[] #[]] w (SaysL (.int .i64 (-1)) w) := by
  have HL := Lib.hid hl; have HLN := Lib.hid hl.len; have HW := Lib.hid hw
  have HRR : Hid (∀ w', Below w.heap.size w w' → Rounds w') := Lib.hid fun w' h => hr.later h
  clear hl hw hr
  go_enter Tryz.func89, Tryz.ntmps89
  go_wp2
  go_loopw [5, 8] (fun _ i wr => ∃ j : Nat, j ≤ n ∧ i = .int .i64 j ∧ Hid (Below w.heap.size w wr)) (fun _ i _ => n - (intOf i).toNat)
  case atStart => exact ⟨0, Nat.zero_le _, rfl, Lib.hid (Below.refl _ _)⟩
  case round =>
    obtain ⟨j, hj, rfl, HQ⟩ := hrel
    by_cases hlt : j < n
    · have HWS : Hid (Well (l.getD j noStm)) := Lib.hid (HW.out _ (by
        rw [List.getD_eq_getElem?_getD, List.getElem?_eq_getElem (by rw [HLN.out]; exact hlt)]
        exact List.getElem_mem _))
      obtain ⟨b, off, hA, hc0, hc1, hc2, hc3, hc4, hc5, hc6, hc7, hc8, hc9, hc10, hc11, hc12⟩ := SRow.cells (HL.out.later HQ.out) j hlt
      subst hA
      generalize l.getD j noStm = s at *
      have HIS := Lib.hid (isWrong_any s HWS.out wr (HRR.out wr HQ.out))
      unfold stmV at HIS
      go_wp2_with fail
      refine HIS.out.mono ?_
      rintro e w2 ⟨rfl, hb⟩
      have HB3 := Lib.hid (HQ.out.trans (hb.mono HQ.out.size))
      clear hb hc0 hc1 hc2 hc3 hc4 hc5 hc6 hc7 hc8 hc9 hc10 hc11 hc12 HIS
      go_wp2_with fail
      exact ⟨⟨j + 1, hlt, by go_num, HB3⟩, by simp [intOf]; omega⟩
    · go_wp2_with fail
      go_ret
      exact ⟨rfl, HQ.out⟩
set_option maxHeartbeats 2000000 in
theorem containsWrong_any (A : Option Addr) (n c : Nat) (l : List Stm) (w : World) (hl : SRow w A n c l) (hn : n ≤ 1000000) (hw : ∀ s ∈ l, Well s) (hr : Rounds w) :
    Calls Tryz.prog 54 #[.slice A n c, .func (.func 55) #[] #[]] w (SaysL (.bool false) w) := by
  have H := Lib.hid (indexWrong_any A n c l w hl hn hw hr)
  clear hl hw hr
  go_enter Tryz.func54, Tryz.ntmps54
  go_wp2_with fail
  refine H.out.mono ?_
  rintro e w2 ⟨rfl, hb⟩
  have HB := Lib.hid hb; clear hb
  go_wp2_with fail
  go_ret
  exact ⟨rfl, HB.out⟩
/-- A list of statements that is a store. -/
structure Sto (l : List Stm) : Prop where
  asc : Asc l
  well : ∀ s ∈ l, Well s
  len : l.length ≤ 1000
set_option maxRecDepth 100000 in
set_option maxHeartbeats 2000000 in
theorem valid_any (A : Option Addr) (n c : Nat) (l : List Stm) (w : World) (hl : SRow w A n c l) (hs : Sto l) (hr : Rounds w) :
    Calls Tryz.prog 15 #[.agg #[.slice A n c]] w (SaysL (.bool true) w) := by
  have hn : n ≤ 1000 := by have := hl.len; have := hs.len; omega
  have HA : Hid (∀ x, Below w.heap.size w x → Calls Tryz.prog 53 #[.slice A n c] x (SaysL (.bool true) x)) := Lib.hid fun x h => ascend_any A n c l x (hl.later h) (by omega) hs.asc
  have HW : Hid (∀ x, Below w.heap.size w x → Calls Tryz.prog 54 #[.slice A n c, .func (.func 55) #[] #[]] x (SaysL (.bool false) x)) := Lib.hid fun x h => containsWrong_any A n c l x (hl.later h) (by omega) hs.well (hr.later h)
  clear hl hs hr
  have HB := Lib.hid (one_new w (.cells #[.slice A n c] 24))
  have HX := Lib.hid (heap_alloc_new w (.cells #[.slice A n c] 24))
  have hc := cell_of_row _ _ 0 _ _ _ HX.out
  simp only [List.getElem?_toArray, List.getElem?_cons_zero] at hc
  go_enter Tryz.func15, Tryz.ntmps15
  go_wp2_with fail
  refine (HA.out _ HB.out).mono ?_
  rintro e w1 ⟨rfl, hb⟩
  have HX1 := Lib.hid ((hb.block _ (Array.getElem?_eq_some_iff.1 HX.out).1).trans HX.out)
  have HB1 := Lib.hid (HB.out.trans (hb.mono HB.out.size))
  clear hc hb HX HB HA
  have hc := cell_of_row _ _ 0 _ _ _ HX1.out
  simp only [List.getElem?_toArray, List.getElem?_cons_zero] at hc
  go_wp2_with fail
  refine (HW.out _ HB1.out).mono ?_
  rintro e w2 ⟨rfl, hb⟩
  have HB2 := Lib.hid (HB1.out.trans (hb.mono HB1.out.size))
  clear hc hb HX1 HB1 HW
  go_wp2_with fail
  go_ret
  exact ⟨rfl, HB2.out⟩
end Go.Proofs.YtnjilfdmplbalaaGreatDoor
/- The walk of slices.BinarySearchFunc over statements, with store's compare. -/
namespace Go.Proofs.YtnjilfdmplbalaaGreatDoor
open Go.RowKit
set_option maxRecDepth 100000 in
set_option maxHeartbeats 4000000 in
theorem bsearch_any (A : Option Addr) (n c : Nat) (l : List Stm) (x : Stm) (w : World) (hl : SRow w A n c l) (hn : n ≤ 1000000) (p : Nat) (hp : p ≤ n) (hlow : ∀ i, i < p → cmpS (l.getD i noStm) x < 0) (hhigh : ∀ i, p ≤ i → i < n → 0 ≤ cmpS (l.getD i noStm) x) :
    Calls Tryz.prog 43 #[.slice A n c, stmV x none 0 0 none 0 0, .func (.func 44) #[] #[]] w (SaysL (.tuple #[.int .i64 p, .bool (decide (p < n) && decide (cmpS (l.getD p noStm) x = 0))]) w) := by
  have HL := Lib.hid hl; have HLN := Lib.hid hl.len; have HLO := Lib.hid hlow; have HHI := Lib.hid hhigh
  have HCM : Hid (∀ s y, Calls Tryz.prog 44 #[stmV s none 0 0 none 0 0, stmV x none 0 0 none 0 0] y fun e w' => e = .returned (.int .i64 (cmpS s x)) ∧ Laid y w') := Lib.hid fun s y => compare_any _ _ _ _ _ _ _ _ _ _ _ _ _ _ y
  clear hl hlow hhigh
  unfold stmV at HCM ⊢
  have HB := Lib.hid (one_new w (.cells #[.int .i64 x.author, .int .i64 x.number, .string x.prev, .int .i64 x.time, .int .i64 x.kind, .int .i64 x.a, .int .i64 x.b, .int .i64 x.c, .slice none 0 0, .slice none 0 0, .string x.body, .int .i64 x.key, .string x.dig] 30))
  have HX := Lib.hid (heap_alloc_new w (.cells #[.int .i64 x.author, .int .i64 x.number, .string x.prev, .int .i64 x.time, .int .i64 x.kind, .int .i64 x.a, .int .i64 x.b, .int .i64 x.c, .slice none 0 0, .slice none 0 0, .string x.body, .int .i64 x.key, .string x.dig] 30))
  go_enter Tryz.func43, Tryz.ntmps43
  go_wp2_with fail
  generalize w.alloc (.cells #[.int .i64 x.author, .int .i64 x.number, .string x.prev, .int .i64 x.time, .int .i64 x.kind, .int .i64 x.a, .int .i64 x.b, .int .i64 x.c, .slice none 0 0, .slice none 0 0, .string x.body, .int .i64 x.key, .string x.dig] 30) = w0 at HB HX ⊢
  go_loopw [9, 10] (fun a b wr => ∃ i j : Nat, i ≤ p ∧ p ≤ j ∧ j ≤ n ∧ a = .int .i64 i ∧ b = .int .i64 j ∧ Hid (Below w0.heap.size w0 wr)) (fun a b _ => (intOf b).toNat - (intOf a).toNat)
  case atStart => exact ⟨0, n, Nat.zero_le _, hp, Nat.le_refl _, rfl, rfl, Lib.hid (Below.refl _ _)⟩
  case round =>
    obtain ⟨i, j, hi, hj, hjn, rfl, rfl, HQ⟩ := hrel
    by_cases hlt : i < j
    · have HLX : Hid (w.heap.size < w0.heap.size) := Lib.hid (Array.getElem?_eq_some_iff.1 HX.out).1
      have HX2 : Hid (wr.drew.heap[w.heap.size]? = some (.cells #[.int .i64 x.author, .int .i64 x.number, .string x.prev, .int .i64 x.time, .int .i64 x.kind, .int .i64 x.a, .int .i64 x.b, .int .i64 x.c, .slice none 0 0, .slice none 0 0, .string x.body, .int .i64 x.key, .string x.dig] 30 (0, 0))) := Lib.hid ((HQ.out.block _ HLX.out).trans HX.out)
      have HL2 : Hid (SRow wr.drew A n c l) := Lib.hid (HL.out.later ((HB.out.trans (HQ.out.mono HB.out.size)).drew))
      have HM : Hid (i ≤ (i + j) / 2 ∧ (i + j) / 2 < j) := Lib.hid (by omega)
      go_wp2_with fail
      rw [show ((i : Int) + (j : Int)) / 2 = (((i + j) / 2 : Nat) : Int) by omega]
      generalize (i + j) / 2 = h at HM ⊢
      have hhn : h < n := by have := HM.out; omega
      obtain ⟨b, off, hA, hf0, hf1, hf2, hf3, hf4, hf5, hf6, hf7, hf8, hf9, hf10, hf11, hf12⟩ := SRow.futs (F := Later) Later.refl (fun _ h => h) HL2.out h hhn
      subst hA
      obtain ⟨hg0, hg1, hg2, hg3, hg4, hg5, hg6, hg7, hg8, hg9, hg10, hg11, hg12⟩ := stm_futs (F := Later) Later.refl (A := none) (n := 0) (c := 0) (B := none) (m := 0) (k := 0) (s := x) (W := wr.drew) (fun w' h => h.block _ (Array.getElem?_eq_some_iff.1 HX2.out).1) HX2.out
      have HB2 : Hid (Below w0.heap.size w0 wr.drew) := Lib.hid HQ.out.drew
      have HS1 : Hid (h < p → cmpS (l.getD h noStm) x < 0) := Lib.hid (HLO.out h)
      have HS2 : Hid (p ≤ h → 0 ≤ cmpS (l.getD h noStm) x) := Lib.hid fun g => HHI.out h g hhn
      have HC := Lib.hid (HCM.out (l.getD h noStm))
      generalize l.getD h noStm = s at *
      generalize cmpS s x = r at HC HS1 HS2
      refine wp_region_grow (by kernel_rfl) Later Later.refl (fun _ _ _ => Later.trans) [7] [([0, 1, 2, 3, 4, 5], 6)] (by kernel_rfl) (by kernel_rfl) (by kernel_rfl) ?_
      simp only [List.map_cons, List.map_nil, pick, List.getD_cons_zero, List.getD_cons_succ]
      generalize wr.drew = w1 at *
      refine wpGrow_cons ?_
      repeat (go_big_quiet_step (fail))
      refine wpQuiet_nil ?_
      clear hf0 hf1 hf2 hf3 hf4 hf5 hf6 hf7 hf8 hf9 hf10 hf11 hf12 hg0 hg1 hg2 hg3 hg4 hg5 hg6 hg7 hg8 hg9 hg10 hg11 hg12
      go_wp2_with fail
      refine (HC.out w1).mono ?_
      rintro e w2 ⟨rfl, hb⟩
      have HB3 := Lib.hid (HB2.out.trans (hb.1.mono HB2.out.size)); have HF := Lib.hid hb.1
      clear hb
      go_wp2_with fail
      refine pieceEnd_normal ⟨HF.out, ?_⟩
      by_cases hr : r < 0
      · have hph : h < p := by
          refine Nat.lt_of_not_le fun g => ?_
          have := HS2.out g; omega
        have HPH := Lib.hid hph; clear hph
        have hge : decide (r < 0) = true := decide_eq_true hr
        have HR := Lib.hid hr; clear hr
        refine wpGrow_nil ?_
        repeat (go_big_quiet_step (fail))
        refine wpQuiet_nil ?_
        go_wp2_with fail
        exact ⟨⟨h + 1, j, HPH.out, hj, hjn, by go_num, rfl, HB3⟩, by have := HM.out; simp [intOf]; omega⟩
      · have hph : p ≤ h := by
          refine Nat.le_of_not_lt fun g => ?_
          have := HS1.out g; omega
        have HPH := Lib.hid hph; clear hph
        have hge : decide (r < 0) = false := decide_eq_false hr
        have HR := Lib.hid hr; clear hr
        refine wpGrow_nil ?_
        repeat (go_big_quiet_step (fail))
        refine wpQuiet_nil ?_
        go_wp2_with fail
        exact ⟨⟨i, h, hi, HPH.out, by omega, rfl, by go_num, HB3⟩, by have := HM.out; simp [intOf]; omega⟩
    · have hip : i = p := by omega
      subst hip
      have HL2 : Hid (SRow wr.drew A n c l) := Lib.hid (HL.out.later ((HB.out.trans (HQ.out.mono HB.out.size)).drew))
      have HB2 : Hid (Below w.heap.size w wr.drew) := Lib.hid ((HB.out.trans (HQ.out.mono HB.out.size)).drew)
      by_cases hin : i < n
      · have HLX : Hid (w.heap.size < w0.heap.size) := Lib.hid (Array.getElem?_eq_some_iff.1 HX.out).1
        have HX2 : Hid (wr.drew.heap[w.heap.size]? = some (.cells #[.int .i64 x.author, .int .i64 x.number, .string x.prev, .int .i64 x.time, .int .i64 x.kind, .int .i64 x.a, .int .i64 x.b, .int .i64 x.c, .slice none 0 0, .slice none 0 0, .string x.body, .int .i64 x.key, .string x.dig] 30 (0, 0))) := Lib.hid ((HQ.out.block _ HLX.out).trans HX.out)
        go_wp2_with fail
        obtain ⟨b, off, hA, hf0, hf1, hf2, hf3, hf4, hf5, hf6, hf7, hf8, hf9, hf10, hf11, hf12⟩ := SRow.futs (F := Later) Later.refl (fun _ h => h) HL2.out i hin
        subst hA
        obtain ⟨hg0, hg1, hg2, hg3, hg4, hg5, hg6, hg7, hg8, hg9, hg10, hg11, hg12⟩ := stm_futs (F := Later) Later.refl (A := none) (n := 0) (c := 0) (B := none) (m := 0) (k := 0) (s := x) (W := wr.drew) (fun w' h => h.block _ (Array.getElem?_eq_some_iff.1 HX2.out).1) HX2.out
        have HC := Lib.hid (HCM.out (l.getD i noStm))
        generalize l.getD i noStm = s at *
        generalize hrr : cmpS s x = r at HC
        have HRR := Lib.hid hrr; clear hrr
        refine wp_region_grow (by kernel_rfl) Later Later.refl (fun _ _ _ => Later.trans) [12, 13, 14, 15] [([0, 1, 2, 3, 4, 5, 6, 7, 8, 9, 10], 11)] (by kernel_rfl) (by kernel_rfl) (by kernel_rfl) ?_
        simp only [List.map_cons, List.map_nil, pick, List.getD_cons_zero, List.getD_cons_succ]
        generalize wr.drew = w1 at *
        refine wpGrow_cons ?_
        repeat (go_big_quiet_step (fail))
        refine wpQuiet_nil ?_
        clear hf0 hf1 hf2 hf3 hf4 hf5 hf6 hf7 hf8 hf9 hf10 hf11 hf12 hg0 hg1 hg2 hg3 hg4 hg5 hg6 hg7 hg8 hg9 hg10 hg11 hg12
        go_wp2_with fail
        refine (HC.out w1).mono ?_
        rintro e w2 ⟨rfl, hb⟩
        have HB3 := Lib.hid (HB2.out.trans (hb.1.mono HB2.out.size)); have HF := Lib.hid hb.1
        clear hb
        go_wp2_with fail
        refine pieceEnd_normal ⟨HF.out, ?_⟩
        refine wpGrow_nil ?_
        repeat (go_big_quiet_step (fail))
        refine wpQuiet_nil ?_
        go_wp2_with fail
        go_ret2
        exact ⟨by rw [HRR.out]; simp [hin]; rfl, HB3.out⟩
      · go_wp2_with fail
        refine wp_region_grow (by kernel_rfl) Later Later.refl (fun _ _ _ => Later.trans) [12, 13, 14, 15] [([0, 1, 2, 3, 4, 5, 6, 7, 8, 9, 10], 11)] (by kernel_rfl) (by kernel_rfl) (by kernel_rfl) ?_
        simp only [List.map_cons, List.map_nil, pick, List.getD_cons_zero, List.getD_cons_succ]
        generalize wr.drew = w1 at *
        refine wpGrow_cons ?_
        repeat (go_big_quiet_step (fail))
        refine wpQuiet_nil ?_
        go_wp2_with fail
        refine pieceEnd_normal ⟨Later.refl _, ?_⟩
        refine wpGrow_nil ?_
        repeat (go_big_quiet_step (fail))
        refine wpQuiet_nil ?_
        go_wp2_with fail
        go_ret2
        exact ⟨by simp [hin], HB2.out⟩
end Go.Proofs.YtnjilfdmplbalaaGreatDoor
/- The walks of slices.Grow (of nil) and slices.Concat over statements. -/
namespace Go.Proofs.YtnjilfdmplbalaaGreatDoor
open Go.RowKit
theorem stm_info2 : (Tryz.prog.info? 30).map (fun i => (i.zero, i.size, i.bytes)) = some (some (stmV noStm none 0 0 none 0 0), 13, 160) := by kernel_rfl
set_option maxRecDepth 100000 in
set_option maxHeartbeats 2000000 in
theorem growNil_any (n : Nat) (w : World) (hn : n ≤ 100000) :
    Calls Tryz.prog 82 #[.slice none 0 0, .int .i64 n] w fun e w' => ∃ v, e = .returned v ∧ w'.ownsRow w.heap.size 30 13 v 0 [] ∧ Below w.heap.size w w' := by
  by_cases hz : n = 0
  · subst hz
    go_enter Tryz.func82, Tryz.ntmps82
    go_wp2
    go_ret
    exact ⟨_, rfl, World.ownsRow_nil _ _ _ _, Below.refl _ _⟩
  · obtain ⟨i0, hi0, hz0, hz1, hz2⟩ := info_parts stm_info2
    have hr : ∀ ty, (Builtin.append_ #[22, 3] ty #[.slice none 0 0, .int .i64 n]).run Tryz.prog w = .ok (.slice (some ⟨w.heap.size, 0, none⟩) n (grownCap w n 0 30))
        (w.drew.alloc (.cells (#[] ++ Builtin.zeroCells (stmV noStm none 0 0 none 0 0).cells n ++ Builtin.zeroCells (stmV noStm none 0 0 none 0 0).cells (grownCap w n 0 30 - n)) 30)) := fun ty => by
      have h := Lib.run_append_grow_zeros (P := Tryz.prog) w 22 3 ty 30 i0 (stmV noStm none 0 0 none 0 0) .i64 .i64 Tryz.underlying22 Tryz.underlying3 hi0 hz0 none 0 0 [] (by simp [Builtin.firstCells]) n (by omega) (by omega) (by omega) (by omega) (by rw [hz2]; omega) (growslice_fits (by omega) (by rw [hz2]; omega))
      rw [Nat.zero_add] at h
      exact h
    have hge := grownCap_ge w n 0 30
    have hcm := grownCap_le_maxLen w n 0 30 (by unfold maxLen; omega)
    have HO : Hid ((w.drew.alloc (.cells (#[] ++ Builtin.zeroCells (stmV noStm none 0 0 none 0 0).cells n ++ Builtin.zeroCells (stmV noStm none 0 0 none 0 0).cells (grownCap w n 0 30 - n)) 30)).ownsRow w.heap.size 30 13 (.slice (some ⟨w.heap.size, 0, none⟩) 0 (grownCap w n 0 30)) 0 []) := Lib.hid (World.ownsRow_made w.drew _ _ (Nat.le_refl _) hcm (by
      have h13 : (stmV noStm none 0 0 none 0 0).cells.size = 13 := rfl
      simp only [Array.size_append, size_zeroCells, h13, List.size_toArray, List.length_nil]
      omega))
    have HB : Hid (Below w.heap.size w (w.drew.alloc (.cells (#[] ++ Builtin.zeroCells (stmV noStm none 0 0 none 0 0).cells n ++ Builtin.zeroCells (stmV noStm none 0 0 none 0 0).cells (grownCap w n 0 30 - n)) 30))) := Lib.hid (((Below.refl _ w).drew).alloc (Nat.le_refl _) _)
    generalize grownCap w n 0 30 = G at *
    generalize w.drew.alloc (.cells (#[] ++ Builtin.zeroCells (stmV noStm none 0 0 none 0 0).cells n ++ Builtin.zeroCells (stmV noStm none 0 0 none 0 0).cells (G - n)) 30) = w1 at *
    have hG : G ≤ 9223372036854775807 := by unfold maxLen at hcm; omega
    clear hi0 hz0 hz1 hz2
    have hnn : ¬ ((n : Int) < 0) := by omega
    have hnp : (0 : Int) < n := by omega
    go_enter Tryz.func82, Tryz.ntmps82
    go_wp2_with (at_builtin; refine Lib.wpList_append_run _ rfl _ _ _ _ rfl _ _ rfl rfl _ _ (hr _) ?_)
    go_ret
    exact ⟨_, rfl, HO.out, HB.out⟩
/-- A slice of slices of statements. -/
def Lists (w : World) (A : Option Addr) (n c : Nat) (ls : List (List Stm)) : Prop := ∃ vs, Row w A n c 1 vs ∧ ls.length = n ∧ ∀ i, i < n → ∃ B m k, vs[i]? = some (.slice B m k) ∧ SRow w B m k (ls.getD i [])
theorem Lists.later {w w' : World} {A : Option Addr} {n c : Nat} {ls : List (List Stm)} (h : Lists w A n c ls) (hb : Later w w') : Lists w' A n c ls := by
  obtain ⟨vs, h1, h2, h3⟩ := h
  exact ⟨vs, h1.later hb, h2, fun i hi => by obtain ⟨B, m, k, e, hr⟩ := h3 i hi; exact ⟨B, m, k, e, hr.later hb⟩⟩
theorem Lists.at {w : World} {A : Option Addr} {n c : Nat} {ls : List (List Stm)} (h : Lists w A n c ls) (i : Nat) (hi : i < n) : ∃ b off B m k, A = some ⟨b, off, none⟩ ∧ w.cell? ⟨b, off + i, none⟩ = some (.slice B m k) ∧ SRow w B m k (ls.getD i []) := by
  obtain ⟨vs, h1, -, h3⟩ := h
  obtain ⟨b, off, hA, hc⟩ := Row.form h1 (by omega)
  obtain ⟨B, m, k, e, hr⟩ := h3 i hi
  exact ⟨b, off, B, m, k, hA, by rw [hc i (by have := h1.len; omega), e], hr⟩
def sumLen (ls : List (List Stm)) : Nat := ls.flatten.length
theorem flat_take (ls : List (List Stm)) (j : Nat) (h : j < ls.length) : (ls.take (j + 1)).flatten = (ls.take j).flatten ++ ls.getD j [] := by
  rw [List.take_add_one, List.getD_eq_getElem?_getD, List.getElem?_eq_getElem h, List.flatten_append]
  simp only [Option.toList_some, List.flatten_cons, List.flatten_nil, List.append_nil, Option.getD_some]
theorem sumLen_take (ls : List (List Stm)) (j : Nat) (h : j < ls.length) : sumLen (ls.take (j + 1)) = sumLen (ls.take j) + (ls.getD j []).length := by
  unfold sumLen
  rw [flat_take ls j h, List.length_append]
theorem sumLen_le (ls : List (List Stm)) (j : Nat) : sumLen (ls.take j) ≤ sumLen ls := by
  unfold sumLen
  conv => rhs; rw [← List.take_append_drop j ls, List.flatten_append, List.length_append]
  omega
set_option maxRecDepth 100000 in
set_option maxHeartbeats 4000000 in
theorem concat_any (A : Option Addr) (n c : Nat) (ls : List (List Stm)) (w : World) (hl : Lists w A n c ls) (hn : n ≤ 1000) (hs : sumLen ls ≤ 100000) :
    Calls Tryz.prog 45 #[.slice A n c] w fun e w' => ∃ v, e = .returned v ∧ w'.ownsRow w.heap.size 30 13 v (sumLen ls) (stmsC ls.flatten) ∧ Below w.heap.size w w' := by
  have HL := Lib.hid hl
  have HLN : Hid (ls.length = n) := Lib.hid (by obtain ⟨_, _, h, _⟩ := hl; exact h)
  have HGR : Hid (∀ x m, m ≤ 100000 → Calls Tryz.prog 82 #[.slice none 0 0, .int .i64 (m : Nat)] x fun e w' => ∃ v, e = .returned v ∧ w'.ownsRow x.heap.size 30 13 v 0 [] ∧ Below x.heap.size x w') := Lib.hid fun x m h => growNil_any m x h
  clear hl
  go_enter Tryz.func45, Tryz.ntmps45
  go_wp2
  go_loopw [3, 11] (fun s i wr => ∃ j : Nat, j ≤ n ∧ i = .int .i64 j ∧ s = .int .i64 (sumLen (ls.take j) : Nat) ∧ wr = w) (fun _ i _ => n - (intOf i).toNat)
  case atStart => exact ⟨0, Nat.zero_le _, rfl, rfl, rfl⟩
  case round =>
    obtain ⟨j, hj, rfl, rfl, hw⟩ := hrel
    replace hw := hw.symm
    subst hw
    by_cases hlt : j < n
    · obtain ⟨b, off, B, m, k, hA, hc, hr⟩ := HL.out.at j hlt
      subst hA
      have HT : Hid (sumLen (ls.take (j + 1)) = sumLen (ls.take j) + m) := Lib.hid (by rw [sumLen_take ls j (by rw [HLN.out]; exact hlt), hr.len])
      have hle : sumLen (ls.take j) + m ≤ 100000 := by have := sumLen_le ls (j + 1); have := HT.out; omega
      clear hr
      generalize hq : sumLen (ls.take j) = q at *
      clear hq
      have hneg : ¬ ((q : Int) + (m : Int) < 0) := by omega
      go_wp2
      exact ⟨⟨j + 1, hlt, by go_num, by rw [HT.out]; simp, by simp⟩, by simp [intOf]; omega⟩
    · have hjn : j = n := by omega
      subst hjn
      have HT : Hid (sumLen (ls.take j) = sumLen ls) := Lib.hid (by rw [List.take_of_length_le (by rw [HLN.out]; exact Nat.le_refl _)])
      have hle : sumLen (ls.take j) ≤ 100000 := by rw [HT.out]; exact hs
      have hneg : ¬ (((sumLen (ls.take j) : Nat) : Int) < 0) := by omega
      generalize hq : sumLen (ls.take j) = q at *
      clear hq
      go_wp2_with fail
      refine (HGR.out _ q hle).mono ?_
      rintro e w1 ⟨v, rfl, ho, hb⟩
      have HO := Lib.hid ho; have HB := Lib.hid hb
      clear ho hb
      go_wp2_with fail
      go_loopw [6, 27] (fun v i wr2 => ∃ k : Nat, k ≤ j ∧ i = .int .i64 k ∧ Hid (wr2.ownsRow w.heap.size 30 13 v (sumLen (ls.take k)) (stmsC (ls.take k).flatten) ∧ Below w.heap.size w wr2)) (fun _ i _ => j - (intOf i).toNat)
      case atStart => exact ⟨0, Nat.zero_le _, rfl, Lib.hid ⟨HO.out, HB.out⟩⟩
      case round =>
        obtain ⟨k, hk, rfl, HQ⟩ := hrel
        by_cases hlt2 : k < j
        · obtain ⟨b, off, B, m, kk, hA, hc, hr⟩ := (HL.out.later HQ.out.2).at k hlt2
          subst hA
          have HR := Lib.hid hr; clear hr
          have HT2 : Hid (sumLen (ls.take (k + 1)) = sumLen (ls.take k) + m) := Lib.hid (by rw [sumLen_take ls k (by rw [HLN.out]; exact hlt2), HR.out.len])
          have hle2 : sumLen (ls.take k) + m ≤ 100000 := by have := sumLen_le ls (k + 1); have := HT2.out; omega
          go_wp2_with (at_builtin; go_must (refine wpList_app _ rfl (.tmp 31) (.tmp 32) 22 22 30 rfl w.heap.size Tryz.underlying22 stm_info2 rfl _ (sumLen (ls.take k)) (stmsC (ls.take k).flatten) HQ.out.1 rfl _ m (stmsC (ls.getD k [])) (HR.out.src Tryz.underlying22 (stmsC_one _)) rfl (by unfold maxLen; omega) (by omega) HQ.out.2.size ?_); intro x3 z3 ho hb; have HO3 := Lib.hid ho; have HB3 := Lib.hid (HQ.out.2.trans hb); clear ho hb)
          refine ⟨⟨k + 1, hlt2, by go_num, Lib.hid ⟨?_, HB3.out⟩⟩, by simp [intOf]; omega⟩
          rw [HT2.out, flat_take ls k (by rw [HLN.out]; exact hlt2), stmsC_app]
          exact HO3.out
        · have hkj : k = j := by omega
          subst hkj
          go_wp2_with fail
          go_ret
          have h := HQ.out.1
          rw [List.take_of_length_le (by rw [HLN.out]; exact Nat.le_refl _)] at h
          exact ⟨_, rfl, h, HQ.out.2⟩
end Go.Proofs.YtnjilfdmplbalaaGreatDoor
/- The walks of store's isCopy and of slices.CompactFunc with it, over statements of which no two neighbours are copies. -/
namespace Go.Proofs.YtnjilfdmplbalaaGreatDoor
open Go.RowKit
set_option maxRecDepth 100000 in
set_option maxHeartbeats 2000000 in
theorem isCopy_any (s o : Stm) (w : World) : Calls Tryz.prog 51 #[stmV s none 0 0 none 0 0, stmV o none 0 0 none 0 0] w (SaysL (.bool (decide (cmpS s o = 0))) w) := by
  have HC : Hid (∀ y, Calls Tryz.prog 44 #[stmV s none 0 0 none 0 0, stmV o none 0 0 none 0 0] y fun e w' => e = .returned (.int .i64 (cmpS s o)) ∧ Laid y w') := Lib.hid fun y => compare_any _ _ _ _ _ _ _ _ _ _ _ _ _ _ y
  generalize hr : cmpS s o = r at HC
  have HR := Lib.hid hr; clear hr
  unfold stmV at HC ⊢
  have HB := Lib.hid (((one_new w (.cells #[.int .i64 s.author, .int .i64 s.number, .string s.prev, .int .i64 s.time, .int .i64 s.kind, .int .i64 s.a, .int .i64 s.b, .int .i64 s.c, .slice none 0 0, .slice none 0 0, .string s.body, .int .i64 s.key, .string s.dig] 30)).trans ((one_new (w.alloc (.cells #[.int .i64 s.author, .int .i64 s.number, .string s.prev, .int .i64 s.time, .int .i64 s.kind, .int .i64 s.a, .int .i64 s.b, .int .i64 s.c, .slice none 0 0, .slice none 0 0, .string s.body, .int .i64 s.key, .string s.dig] 30)) (.cells #[.int .i64 o.author, .int .i64 o.number, .string o.prev, .int .i64 o.time, .int .i64 o.kind, .int .i64 o.a, .int .i64 o.b, .int .i64 o.c, .slice none 0 0, .slice none 0 0, .string o.body, .int .i64 o.key, .string o.dig] 30)).mono (by simp))))
  have hx : ((w.alloc (.cells #[.int .i64 s.author, .int .i64 s.number, .string s.prev, .int .i64 s.time, .int .i64 s.kind, .int .i64 s.a, .int .i64 s.b, .int .i64 s.c, .slice none 0 0, .slice none 0 0, .string s.body, .int .i64 s.key, .string s.dig] 30)).alloc (.cells #[.int .i64 o.author, .int .i64 o.number, .string o.prev, .int .i64 o.time, .int .i64 o.kind, .int .i64 o.a, .int .i64 o.b, .int .i64 o.c, .slice none 0 0, .slice none 0 0, .string o.body, .int .i64 o.key, .string o.dig] 30)).heap[w.heap.size]? = some (.cells #[.int .i64 s.author, .int .i64 s.number, .string s.prev, .int .i64 s.time, .int .i64 s.kind, .int .i64 s.a, .int .i64 s.b, .int .i64 s.c, .slice none 0 0, .slice none 0 0, .string s.body, .int .i64 s.key, .string s.dig] 30 (0, 0)) := (Below.heap_alloc _ _ _ (by simp)).trans (heap_alloc_new _ _)
  have hy : ((w.alloc (.cells #[.int .i64 s.author, .int .i64 s.number, .string s.prev, .int .i64 s.time, .int .i64 s.kind, .int .i64 s.a, .int .i64 s.b, .int .i64 s.c, .slice none 0 0, .slice none 0 0, .string s.body, .int .i64 s.key, .string s.dig] 30)).alloc (.cells #[.int .i64 o.author, .int .i64 o.number, .string o.prev, .int .i64 o.time, .int .i64 o.kind, .int .i64 o.a, .int .i64 o.b, .int .i64 o.c, .slice none 0 0, .slice none 0 0, .string o.body, .int .i64 o.key, .string o.dig] 30)).heap[w.heap.size + 1]? = some (.cells #[.int .i64 o.author, .int .i64 o.number, .string o.prev, .int .i64 o.time, .int .i64 o.kind, .int .i64 o.a, .int .i64 o.b, .int .i64 o.c, .slice none 0 0, .slice none 0 0, .string o.body, .int .i64 o.key, .string o.dig] 30 (0, 0)) := by
    have h := heap_alloc_new (w.alloc (.cells #[.int .i64 s.author, .int .i64 s.number, .string s.prev, .int .i64 s.time, .int .i64 s.kind, .int .i64 s.a, .int .i64 s.b, .int .i64 s.c, .slice none 0 0, .slice none 0 0, .string s.body, .int .i64 s.key, .string s.dig] 30)) (.cells #[.int .i64 o.author, .int .i64 o.number, .string o.prev, .int .i64 o.time, .int .i64 o.kind, .int .i64 o.a, .int .i64 o.b, .int .i64 o.c, .slice none 0 0, .slice none 0 0, .string o.body, .int .i64 o.key, .string o.dig] 30)
    rw [show (w.alloc (.cells #[.int .i64 s.author, .int .i64 s.number, .string s.prev, .int .i64 s.time, .int .i64 s.kind, .int .i64 s.a, .int .i64 s.b, .int .i64 s.c, .slice none 0 0, .slice none 0 0, .string s.body, .int .i64 s.key, .string s.dig] 30)).heap.size = w.heap.size + 1 by simp] at h
    exact h
  obtain ⟨hf0, hf1, hf2, hf3, hf4, hf5, hf6, hf7, hf8, hf9, hf10, hf11, hf12⟩ := stm_cells (A := none) (n := 0) (c := 0) (B := none) (m := 0) (k := 0) (s := s) hx
  obtain ⟨hg0, hg1, hg2, hg3, hg4, hg5, hg6, hg7, hg8, hg9, hg10, hg11, hg12⟩ := stm_cells (A := none) (n := 0) (c := 0) (B := none) (m := 0) (k := 0) (s := o) hy
  clear hx hy
  go_enter Tryz.func51, Tryz.ntmps51
  go_wp2_with fail
  refine (HC.out _).mono ?_
  rintro e w1 ⟨rfl, hb⟩
  have HB2 := Lib.hid (HB.out.trans (hb.1.mono HB.out.size))
  clear hb hf0 hf1 hf2 hf3 hf4 hf5 hf6 hf7 hf8 hf9 hf10 hf11 hf12 hg0 hg1 hg2 hg3 hg4 hg5 hg6 hg7 hg8 hg9 hg10 hg11 hg12 HB
  go_wp2_with fail
  go_ret
  exact ⟨rfl, HB2.out⟩
/-- No two neighbours of a list are copies. -/
def Parted (l : List Stm) : Prop := ∀ i, 1 ≤ i → i < l.length → cmpS (l.getD i noStm) (l.getD (i - 1) noStm) ≠ 0
set_option maxRecDepth 100000 in
set_option maxHeartbeats 4000000 in
theorem compact_any (A : Option Addr) (n c : Nat) (l : List Stm) (w : World) (hl : SRow w A n c l) (hn : n ≤ 1000000) (ha : Parted l) :
    Calls Tryz.prog 50 #[.slice A n c, .func (.func 51) #[] #[]] w (SaysL (.slice A n c) w) := by
  have HL := Lib.hid hl; have HLN := Lib.hid hl.len; have HA := Lib.hid ha
  have HIC : Hid (∀ s o x, Calls Tryz.prog 51 #[stmV s none 0 0 none 0 0, stmV o none 0 0 none 0 0] x (SaysL (.bool (decide (cmpS s o = 0))) x)) := Lib.hid isCopy_any
  unfold stmV at HIC
  clear hl ha
  by_cases hn2 : n < 2
  · go_enter Tryz.func50, Tryz.ntmps50
    go_wp2
    go_ret
    exact ⟨rfl, Below.refl _ _⟩
  go_enter Tryz.func50, Tryz.ntmps50
  go_wp2
  go_loopw [5] (fun i wr => ∃ j : Nat, 1 ≤ j ∧ j ≤ n ∧ i = .int .i64 j ∧ Hid (Below w.heap.size w wr)) (fun i _ => n - (intOf i).toNat)
  case atStart => exact ⟨1, Nat.le_refl _, by omega, rfl, Lib.hid (Below.refl _ _)⟩
  case round =>
    obtain ⟨j, hj1, hj, rfl, HQ⟩ := hrel
    by_cases hlt : j < n
    · have HC := Lib.hid (HA.out j hj1 (by rw [HLN.out]; exact hlt))
      have HL2 : Hid (SRow wr.drew A n c l) := Lib.hid (HL.out.later (HQ.out.drew))
      have HB2 : Hid (Below w.heap.size w wr.drew) := Lib.hid HQ.out.drew
      obtain ⟨b, off, hA, hf0, hf1, hf2, hf3, hf4, hf5, hf6, hf7, hf8, hf9, hf10, hf11, hf12⟩ := SRow.futs (F := Later) Later.refl (fun _ h => h) HL2.out (j - 1) (by omega)
      obtain ⟨b2, off2, hA2, hg0, hg1, hg2, hg3, hg4, hg5, hg6, hg7, hg8, hg9, hg10, hg11, hg12⟩ := SRow.futs (F := Later) Later.refl (fun _ h => h) HL2.out j hlt
      subst hA
      injection hA2 with hA2
      injection hA2 with e1 e2
      subst e1 e2
      have hj2 : ((j : Int) - 1) = ((j - 1 : Nat) : Int) := by omega
      have HCM := Lib.hid (HIC.out (l.getD j noStm) (l.getD (j - 1) noStm))
      generalize l.getD (j - 1) noStm = s at *
      generalize l.getD j noStm = o at *
      have hd : decide (cmpS o s = 0) = false := decide_eq_false HC.out
      rw [hd] at HCM
      clear hd
      go_wp2_with fail
      refine wp_region_grow (by kernel_rfl) Later Later.refl (fun _ _ _ => Later.trans) [] [([0, 1, 2, 3, 4, 5, 6, 7, 8, 9], 10)] (by kernel_rfl) (by kernel_rfl) (by kernel_rfl) ?_
      simp only [List.map_cons, List.map_nil, pick, List.getD_cons_zero, List.getD_cons_succ]
      generalize wr.drew = w1 at *
      refine wpGrow_cons ?_
      repeat (go_big_quiet_step (fail))
      refine wpQuiet_nil ?_
      clear hf0 hf1 hf2 hf3 hf4 hf5 hf6 hf7 hf8 hf9 hf10 hf11 hf12 hg0 hg1 hg2 hg3 hg4 hg5 hg6 hg7 hg8 hg9 hg10 hg11 hg12
      go_wp2_with fail
      refine (HCM.out w1).mono ?_
      rintro e w2 ⟨rfl, hb⟩
      have HB3 := Lib.hid (HB2.out.trans (hb.mono HB2.out.size)); have HF := Lib.hid hb
      clear hb
      go_wp2_with fail
      refine pieceEnd_normal ⟨HF.out, ?_⟩
      refine wpGrow_nil ?_
      refine wpQuiet_nil ?_
      go_wp2_with fail
      exact ⟨⟨j + 1, by omega, by omega, by go_num, HB3⟩, by simp [intOf]; omega⟩
    · go_wp2_with fail
      go_ret
      exact ⟨rfl, HQ.out⟩
end Go.Proofs.YtnjilfdmplbalaaGreatDoor
/- The order of statements in a store is one. No program. -/
namespace Go.Proofs.YtnjilfdmplbalaaGreatDoor
/-- A comparison that is an order. -/
structure Ordered {α : Type} (c : α → α → Int) : Prop where
  anti : ∀ x y, c y x = - c x y
  cong : ∀ x y z, c x y = 0 → c x z = c y z
  trans : ∀ x y z, c x y < 0 → c y z < 0 → c x z < 0
theorem Ordered.cong2 {α : Type} {c : α → α → Int} (h : Ordered c) (x y z : α) (he : c y z = 0) : c x y = c x z := by
  have h1 := h.cong y z x he
  have h2 := h.anti x y
  have h3 := h.anti x z
  omega
theorem Ordered.swo {α : Type} {c : α → α → Int} (h : Ordered c) : Go.Sort.SWO (ltOf c) where
  irrefl x := by
    have := h.anti x x
    unfold ltOf
    exact decide_eq_false (by omega)
  trans x y z h1 h2 := by
    unfold ltOf at *
    exact decide_eq_true (h.trans x y z (of_decide_eq_true h1) (of_decide_eq_true h2))
  ntrans x y z h1 h2 := by
    unfold ltOf at *
    have g1 := of_decide_eq_false h1
    have g2 := of_decide_eq_false h2
    refine decide_eq_false fun hc => ?_
    by_cases e1 : c x y = 0
    · have := h.cong x y z e1; omega
    · by_cases e2 : c y z = 0
      · have := h.cong2 x y z e2; omega
      · have a1 := h.anti x y; have a2 := h.anti y z; have a3 := h.anti x z
        have := h.trans z y x (by omega) (by omega)
        omega
theorem ordInt : Ordered Lib.compareInt where
  anti x y := by unfold Lib.compareInt; repeat' split; all_goals omega
  cong x y z h := by
    have : x = y := by unfold Lib.compareInt at h; revert h; repeat' split; all_goals omega
    rw [this]
  trans x y z h1 h2 := by unfold Lib.compareInt at *; revert h1 h2; repeat' split; all_goals omega
theorem u8_anti (a b : UInt8) : ¬ (a < b ∧ b < a) := fun ⟨h1, h2⟩ => by
  have := UInt8.lt_iff_toNat_lt.1 h1; have := UInt8.lt_iff_toNat_lt.1 h2; omega
theorem u8_eq (a b : UInt8) (h1 : ¬ a < b) (h2 : ¬ b < a) : a = b := by
  refine UInt8.toNat_inj.1 ?_
  have g1 : ¬ a.toNat < b.toNat := fun h => h1 (UInt8.lt_iff_toNat_lt.2 h)
  have g2 : ¬ b.toNat < a.toNat := fun h => h2 (UInt8.lt_iff_toNat_lt.2 h)
  omega
theorem u8_trans (a b c : UInt8) (h1 : a < b) (h2 : b < c) : a < c := by
  have := UInt8.lt_iff_toNat_lt.1 h1; have := UInt8.lt_iff_toNat_lt.1 h2
  exact UInt8.lt_iff_toNat_lt.2 (by omega)
theorem bytes_anti : ∀ x y, Lib.compareBytes y x = - Lib.compareBytes x y
  | [], [] => rfl
  | [], _ :: _ => rfl
  | _ :: _, [] => rfl
  | a :: xs, b :: ys => by
    simp only [Lib.compareBytes]
    by_cases h1 : a < b
    · rw [if_pos h1, if_neg (fun h => u8_anti a b ⟨h1, h⟩), if_pos h1]; rfl
    · by_cases h2 : b < a
      · rw [if_pos h2, if_neg h1, if_pos h2]
      · rw [if_neg h2, if_neg h1, if_neg h1, if_neg h2]; exact bytes_anti xs ys
theorem bytes_eq : ∀ x y, Lib.compareBytes x y = 0 → x = y
  | [], [], _ => rfl
  | [], _ :: _, h => by cases h
  | _ :: _, [], h => by cases h
  | a :: xs, b :: ys, h => by
    simp only [Lib.compareBytes] at h
    by_cases h1 : a < b
    · rw [if_pos h1] at h; cases h
    · by_cases h2 : b < a
      · rw [if_neg h1, if_pos h2] at h; cases h
      · rw [if_neg h1, if_neg h2] at h
        rw [u8_eq a b h1 h2, bytes_eq xs ys h]
theorem bytes_trans : ∀ x y z, Lib.compareBytes x y < 0 → Lib.compareBytes y z < 0 → Lib.compareBytes x z < 0
  | [], [], _, h, _ => by cases h
  | [], _ :: _, [], _, h => by simp [Lib.compareBytes] at h
  | [], _ :: _, _ :: _, _, _ => by simp [Lib.compareBytes]
  | _ :: _, [], _, h, _ => by simp [Lib.compareBytes] at h
  | _ :: _, _ :: _, [], _, h => by simp [Lib.compareBytes] at h
  | a :: xs, b :: ys, c :: zs, h, g => by
    simp only [Lib.compareBytes] at h g ⊢
    by_cases h1 : a < b
    · by_cases g1 : b < c
      · rw [if_pos (u8_trans a b c h1 g1)]; decide
      · by_cases g2 : c < b
        · rw [if_neg g1, if_pos g2] at g; exact absurd g (by decide)
        · rw [← u8_eq b c g1 g2, if_pos h1]; decide
    · by_cases h2 : b < a
      · rw [if_neg h1, if_pos h2] at h; exact absurd h (by decide)
      · obtain rfl := u8_eq a b h1 h2
        by_cases g1 : a < c
        · rw [if_pos g1]; decide
        · by_cases g2 : c < a
          · rw [if_neg g1, if_pos g2] at g; exact absurd g (by decide)
          · rw [if_neg h1, if_neg h1] at h
            rw [if_neg g1, if_neg g2] at g ⊢
            exact bytes_trans xs ys zs h g
theorem ordBytes : Ordered Lib.compareBytes := ⟨bytes_anti, fun x y z h => by rw [bytes_eq x y h], bytes_trans⟩
theorem Ordered.map {α β : Type} {c : β → β → Int} (h : Ordered c) (f : α → β) : Ordered fun x y => c (f x) (f y) :=
  ⟨fun _ _ => h.anti _ _, fun _ _ _ => h.cong _ _ _, fun _ _ _ => h.trans _ _ _⟩
/-- One comparison, and where it says nothing another one. -/
theorem Ordered.lex {α : Type} {c d : α → α → Int} (h : Ordered c) (k : Ordered d) : Ordered fun x y => if c x y = 0 then d x y else c x y where
  anti x y := by
    have a := h.anti x y; have b := k.anti x y
    by_cases e : c x y = 0
    · rw [if_pos e, if_pos (by omega)]; exact b
    · rw [if_neg e, if_neg (by omega)]; exact a
  cong x y z he := by
    by_cases e : c x y = 0
    · rw [if_pos e] at he
      rw [h.cong x y z e, k.cong x y z he]
    · rw [if_neg e] at he; exact absurd he e
  trans x y z h1 h2 := by
    by_cases e1 : c x y = 0
    · rw [if_pos e1] at h1
      rw [h.cong x y z e1]
      by_cases e2 : c y z = 0
      · rw [if_pos e2] at h2 ⊢; exact k.trans x y z h1 h2
      · rw [if_neg e2] at h2 ⊢; exact h2
    · rw [if_neg e1] at h1
      by_cases e2 : c y z = 0
      · rw [← h.cong2 x y z e2, if_neg e1]; exact h1
      · rw [if_neg e2] at h2
        have t := h.trans x y z h1 h2
        rw [if_neg (by omega)]; exact t
theorem cmpS_lex : cmpS = fun x y => if Lib.compareInt x.author y.author = 0 then (if Lib.compareInt x.number y.number = 0 then Lib.compareBytes x.dig.data.toList y.dig.data.toList else Lib.compareInt x.number y.number) else Lib.compareInt x.author y.author := by
  funext x y
  unfold cmpS firstNZ firstNZ firstNZ firstNZ
  by_cases h : Lib.compareBytes x.dig.data.toList y.dig.data.toList = 0
  · rw [if_pos h, h]
  · rw [if_neg h]
theorem ordS : Ordered cmpS := by
  rw [cmpS_lex]
  exact (ordInt.map Stm.author).lex ((ordInt.map Stm.number).lex (ordBytes.map fun s : Stm => s.dig.data.toList))
theorem cmpS_swo : Go.Sort.SWO (ltOf cmpS) := ordS.swo
theorem cmpS_self (x : Stm) : cmpS x x = 0 := by have := ordS.anti x x; omega
/-- By author and number alone. -/
theorem cmpS_author {x y : Stm} (h : x.author < y.author) : cmpS x y < 0 := by
  rw [cmpS_lex]
  have : Lib.compareInt x.author y.author = -1 := by unfold Lib.compareInt; rw [if_pos h]
  dsimp only
  rw [this]; exact (by decide : (-1 : Int) < 0)
theorem cmpS_number {x y : Stm} (h : x.author = y.author) (h2 : x.number < y.number) : cmpS x y < 0 := by
  rw [cmpS_lex]
  have e1 : Lib.compareInt x.author y.author = 0 := by unfold Lib.compareInt; rw [if_neg (by omega), if_neg (by omega)]
  have e2 : Lib.compareInt x.number y.number = -1 := by unfold Lib.compareInt; rw [if_pos h2]
  dsimp only
  rw [e1, e2]; exact (by decide : (-1 : Int) < 0)
end Go.Proofs.YtnjilfdmplbalaaGreatDoor
/- slices.SortFunc over statements, with store's compare: the shelf's contract at this program. -/
namespace Go.Proofs.YtnjilfdmplbalaaGreatDoor
open Go.RowKit Go.Shelf Go.Sort
def sortStm_ren : Go.Shelf.Ren := ⟨fun | 6 => 49 | 15 => 88 | 14 => 87 | 28 => 118 | 29 => 119 | 20 => 110 | 21 => 111 | 22 => 112 | 23 => 113 | 24 => 114 | 25 => 115 | 26 => 116 | 27 => 117 | 46 => 132 | 47 => 133 | 48 => 134 | 49 => 135 | 50 => 136 | 57 => 146 | n => n, fun | 22 => 22 | 24 => 30 | 25 => 70 | 3 => 3 | 39 => 93 | 0 => 0 | 53 => 122 | 55 => 124 | 4 => 4 | 46 => 116 | 45 => 115 | 50 => 68 | 5 => 5 | 9 => 9 | 66 => 136 | 70 => 140 | 76 => 150 | 77 => 151 | n => n, fun | n => n⟩
theorem sortStm : SlLaysF0.n6 Tryz.prog sortStm_ren := {
  mixed := by kernel_rfl
  f6 := ⟨Tryz.f49.name, by decide, Tryz.func49.trans (congrArg some (by kernel_rfl))⟩
  f14 := ⟨Tryz.f87.name, by decide, Tryz.func87.trans (congrArg some (by kernel_rfl))⟩
  f15 := Tryz.func88.trans (congrArg some (by kernel_rfl))
  f20 := ⟨Tryz.f110.name, by decide, Tryz.func110.trans (congrArg some (by kernel_rfl))⟩
  f21 := ⟨Tryz.f111.name, by decide, Tryz.func111.trans (congrArg some (by kernel_rfl))⟩
  f22 := ⟨Tryz.f112.name, by decide, Tryz.func112.trans (congrArg some (by kernel_rfl))⟩
  f23 := ⟨Tryz.f113.name, by decide, Tryz.func113.trans (congrArg some (by kernel_rfl))⟩
  f24 := ⟨Tryz.f114.name, by decide, Tryz.func114.trans (congrArg some (by kernel_rfl))⟩
  f25 := ⟨Tryz.f115.name, by decide, Tryz.func115.trans (congrArg some (by kernel_rfl))⟩
  f26 := ⟨Tryz.f116.name, by decide, Tryz.func116.trans (congrArg some (by kernel_rfl))⟩
  f27 := ⟨Tryz.f117.name, by decide, Tryz.func117.trans (congrArg some (by kernel_rfl))⟩
  f28 := Tryz.func118.trans (congrArg some (by kernel_rfl))
  f29 := Tryz.func119.trans (congrArg some (by kernel_rfl))
  f46 := ⟨Tryz.f132.name, by decide, Tryz.func132.trans (congrArg some (by kernel_rfl))⟩
  f47 := Tryz.func133.trans (congrArg some (by kernel_rfl))
  f48 := Tryz.func134.trans (congrArg some (by kernel_rfl))
  f49 := ⟨Tryz.f135.name, by decide, Tryz.func135.trans (congrArg some (by kernel_rfl))⟩
  f50 := ⟨Tryz.f136.name, by decide, Tryz.func136.trans (congrArg some (by kernel_rfl))⟩
  f57 := ⟨Tryz.f146.name, by decide, Tryz.func146.trans (congrArg some (by kernel_rfl))⟩
  t0 := Tryz.underlying0
  a0 := Tryz.isAgg0
  z0 := Tryz.sizeOf0
  v0 := Tryz.zeroValue0
  t3 := Tryz.underlying3
  a3 := Tryz.isAgg3
  z3 := Tryz.sizeOf3
  v3 := Tryz.zeroValue3
  t4 := Tryz.underlying4
  a4 := Tryz.isAgg4
  z4 := Tryz.sizeOf4
  v4 := Tryz.zeroValue4
  t5 := Tryz.underlying5
  a5 := Tryz.isAgg5
  z5 := Tryz.sizeOf5
  v5 := Tryz.zeroValue5
  t9 := Tryz.underlying9
  a9 := Tryz.isAgg9
  z9 := Tryz.sizeOf9
  v9 := Tryz.zeroValue9
  t22 := Tryz.underlying22
  a22 := Tryz.isAgg22
  z22 := Tryz.sizeOf22
  v22 := Tryz.zeroValue22
  t25 := Tryz.underlying70
  a25 := Tryz.isAgg70
  z25 := Tryz.sizeOf70
  v25 := Tryz.zeroValue70
  t39 := Tryz.underlying93
  a39 := Tryz.isAgg93
  z39 := Tryz.sizeOf93
  v39 := Tryz.zeroValue93
  t45 := Tryz.underlying115
  a45 := Tryz.isAgg115
  z45 := Tryz.sizeOf115
  v45 := Tryz.zeroValue115
  t46 := Tryz.underlying116
  a46 := Tryz.isAgg116
  z46 := Tryz.sizeOf116
  v46 := Tryz.zeroValue116
  t50 := Tryz.underlying68
  a50 := Tryz.isAgg68
  z50 := Tryz.sizeOf68
  v50 := Tryz.zeroValue68
  t53 := Tryz.underlying122
  a53 := Tryz.isAgg122
  z53 := Tryz.sizeOf122
  v53 := Tryz.zeroValue122
  t55 := Tryz.underlying124
  a55 := Tryz.isAgg124
  z55 := Tryz.sizeOf124
  v55 := Tryz.zeroValue124
  t66 := Tryz.underlying136
  a66 := Tryz.isAgg136
  z66 := Tryz.sizeOf136
  v66 := Tryz.zeroValue136
  t70 := Tryz.underlying140
  a70 := Tryz.isAgg140
  z70 := Tryz.sizeOf140
  v70 := Tryz.zeroValue140
  t76 := Tryz.underlying150
  a76 := Tryz.isAgg150
  z76 := Tryz.sizeOf150
  v76 := Tryz.zeroValue150
  t77 := Tryz.underlying151
  a77 := Tryz.isAgg151
  z77 := Tryz.sizeOf151
  v77 := Tryz.zeroValue151 }
theorem laid_grow {a b : World} (h : Laid a b) : ∃ q os, b = Sort.grow (a.drewN q) os := by
  obtain ⟨h1, h2⟩ := h
  refine ⟨b.drawn - a.drawn, b.heap.extract a.heap.size b.heap.size, ?_⟩
  obtain ⟨ho, ht, hu, hs, hb⟩ := h1
  obtain ⟨bh, bt, bd, bo, bu⟩ := b
  obtain ⟨ah, at', ad, ao, au⟩ := a
  simp only at ho ht hu hs hb h2
  subst ho ht hu
  unfold Sort.grow World.drewN
  simp only
  congr 1
  · apply Array.ext
    · simp; omega
    · intro i h3 h4
      by_cases hi : i < ah.size
      · rw [Array.getElem_append_left hi]
        have := hb i hi
        rw [Array.getElem?_eq_getElem h3, Array.getElem?_eq_getElem hi] at this
        injection this
      · rw [Array.getElem_append_right (by omega), Array.getElem_extract]
        congr 1
        omega
  · omega
instance : Inhabited Stm := ⟨noStm⟩
theorem cells13 (x : Stm) : (cellsS x).length = 13 := rfl
theorem cmpLays (blk off size : Nat) (w : World) : CmpLays Tryz.prog 44 #[] cellsS 13 cmpS blk off size w := fun m os dk _ x y => by
  refine Calls.mono (compare_any x none 0 0 none 0 0 y none 0 0 none 0 0 _) ?_
  rintro e w' ⟨rfl, h⟩
  exact ⟨rfl, laid_grow h⟩
theorem stmsC_at (l : List Stm) (t : Nat) (h : t < l.length * 13) : (stmsC l)[t]? = some ((cellsS (l.getD (t / 13) noStm)).getD (t % 13) undef) := by
  have h1 : t / 13 < l.length := by omega
  have e : t = t / 13 * 13 + t % 13 := by omega
  conv => lhs; rw [e, ← List.getElem?_drop, stmsC_drop, List.drop_eq_getElem_cons h1]
  show (cellsS l[t / 13] ++ stmsC _)[t % 13]? = _
  have e1 : l.getD (t / 13) noStm = l[t / 13] := by rw [List.getD_eq_getElem?_getD, List.getElem?_eq_getElem h1]; rfl
  rw [e1, List.getElem?_append_left (by rw [cells13]; omega), List.getD_eq_getElem?_getD, List.getElem?_eq_getElem (by rw [cells13]; omega)]
  rfl
theorem flat_at (l : List Stm) (t : Nat) (h : t < l.length * 13) : some ((flatK cellsS 13 l.toArray)[t]!) = (stmsC l)[t]? := by
  rw [get_flatK _ _ _ _ (by simpa using h), stmsC_at l t h]
  have h1 : t / 13 < l.length := by omega
  congr 1
  have e1 : l.toArray[t / 13]! = l.getD (t / 13) noStm := by
    rw [getElem!_pos _ _ (by simpa using h1), List.getD_eq_getElem?_getD, List.getElem?_eq_getElem h1]
    rfl
  rw [e1]
  generalize l.getD (t / 13) noStm = x
  rw [getElem!_pos _ _ (by rw [cells13]; omega), List.getD_eq_getElem?_getD, List.getElem?_eq_getElem (by rw [cells13]; omega)]
  rfl
theorem below_put (w : World) (m blk off : Nat) (d : Array Stm) (os : Array Obj) {B : Nat} (hB : B ≤ blk) (hb : B ≤ w.heap.size) : RowKit.Below B w (sortWorldK cellsS 13 w blk off m d os) := by
  refine ⟨rfl, rfl, rfl, ?_, fun k hk => ?_⟩
  · exact size_sortWorldK_c cellsS 13 w blk off m d os
  · unfold sortWorldK Sort.grow putRowK putRow mapBlock Sort.ahead
    simp only
    rw [Array.getElem?_append_left (by simp; omega), Array.getElem?_modify, if_neg (by omega)]
/-- The list of a sorted row. -/
def Sorted (l : List Stm) : Prop := ∀ i j, i < j → j < l.length → ¬ cmpS (l.getD j noStm) (l.getD i noStm) < 0
set_option maxHeartbeats 1000000 in
theorem sort_any (B : Nat) (v : Value) (n : Nat) (l : List Stm) (w : World) (ho : w.ownsRow B 30 13 v n (stmsC l)) (h0 : 0 < n) (hn : n ≤ 1000000) (hB : B ≤ w.heap.size) :
    Calls Tryz.prog 49 #[v, .func (.func 44) #[] #[]] w fun e w' => e = .returned (.tuple #[]) ∧ ∃ A c l', v = .slice A n c ∧ l'.Perm l ∧ Sorted l' ∧ SRow w' A n c l' ∧ RowKit.Below B w w' := by
  obtain ⟨hlen, ⟨rfl, hz⟩ | ⟨g, cap, cur, rfl, hBg, hg, hnc, hcm, hcs, htk⟩⟩ := ho
  · omega
  have hln : l.length = n := by rw [stmsC_len] at hlen; omega
  have hcur : ∀ t, t < n * 13 → cur[t]? = (stmsC l)[t]? := fun t ht => by
    rw [← htk, List.getElem?_take_of_lt ht]; simp
  have hH : HoldsK cellsS 13 w g 0 l.toArray := by
    intro t ht
    have ht' : t < l.length * 13 := by simpa using ht
    rw [Nat.zero_add]
    refine ⟨?_, ?_⟩
    · rw [cell_of_row _ _ _ _ _ _ hg, hcur t (by rw [← hln]; exact ht'), ← flat_at l t ht']; rfl
    · unfold World.frozen?
      rw [hg]
      simp
  have hblk : g < w.heap.size := (Array.getElem?_eq_some_iff.1 hg).1
  have eg : ∀ args w, (callFunc 44 args).run Tryz.prog w = .ok (.enter 44 args) w := enters_of Tryz.func44 (by kernel_rfl) rfl
  have hcon := AnyQ.slices_SortFunc sortStm 13 Tryz.isAgg30 Tryz.sizeOf30 cellsS cells13 (fun x u hu => stmsC_one [x] u (by rw [stmsC_single]; exact hu)) cmpS cmpS_swo 44 #[] g 0 cap l.toArray w eg (cmpLays g 0 _ w) hH hblk (by simp; omega)
  rw [List.size_toArray, hln] at hcon
  refine Calls.mono hcon ?_
  rintro e w' ⟨rfl, d', m, os, hp, hs, rfl⟩
  obtain ⟨hps, -, hpp⟩ := hp
  have hds : d'.size = n := by rw [hps, List.size_toArray, hln]
  refine ⟨rfl, _, _, d'.toList, rfl, ?_, ?_, ?_, below_put w m g 0 d' os hBg hB⟩
  · have e1 : d'.extract 0 n = d' := by rw [← hds]; simp
    have e2 : l.toArray.extract 0 n = l.toArray := by rw [← hln, ← List.size_toArray]; simp
    rw [e1, e2] at hpp
    exact hpp
  · intro i j hij hj
    have hj' : j < d'.size := by simpa using hj
    have h := hs i j (Nat.zero_le _) hij (by omega)
    unfold ltOf at h
    have h2 := of_decide_eq_false h
    have ei : d'[i]! = d'.toList.getD i noStm := by
      rw [getElem!_pos _ _ (by omega), List.getD_eq_getElem?_getD, List.getElem?_eq_getElem (by simp; omega)]; simp
    have ej : d'[j]! = d'.toList.getD j noStm := by
      rw [getElem!_pos _ _ (by omega), List.getD_eq_getElem?_getD, List.getElem?_eq_getElem (by simp; omega)]; simp
    rw [← ei, ← ej]
    exact h2
  · have hH2 := holdsK_sortWorldK_c cellsS 13 w g 0 l.toArray d' m os hH hblk (by simp [hds, hln])
    refine ⟨by rw [stmsC_len]; simp [hds], hnc, fun h => (by cases h), fun ad hA _ => ?_⟩
    injection hA with hA
    subst hA
    refine ⟨g, 0, rfl, fun t ht => ?_⟩
    have ht' : t < d'.size * 13 := by rw [hds]; exact ht
    have h := (hH2 t (by simpa using ht')).1
    rw [h]
    have := flat_at d'.toList t (by simpa using ht')
    rw [← this]
    simp
end Go.Proofs.YtnjilfdmplbalaaGreatDoor
/- The walk of store's Merge where no two statements are copies. -/
namespace Go.Proofs.YtnjilfdmplbalaaGreatDoor
open Go.RowKit
theorem results_store2 {fn : Func} {tmps : Array Value} {w : World} {s : Nat} {x v : Value} (hr : fn.results = #[.cell 4 24, .tmp 5]) (h2 : tmps.getD 4 undef = .pointer (some ⟨s, 0, none⟩)) (h3 : tmps.getD 5 undef = v)
    (hc : w.cell? ⟨s, 0, none⟩ = some x) : (results fn tmps).run Tryz.prog w = .ok (.tuple #[.agg #[x], v]) w := by
  have h2' : tmps[4]?.getD undef = .pointer (some ⟨s, 0, none⟩) := by simpa using h2
  have h3' : tmps[5]?.getD undef = v := by simpa using h3
  have hl := run_loadVar_mid (P := Tryz.prog) w s 0 24 [x] _ (fun j u hj => by
    match j, hj with
    | 0, hj => injection hj with hj; rw [← hj]; exact hc
    | j + 1, hj => cases hj) Tryz.underlying24 rfl (by kernel_rfl)
  unfold results
  rw [hr]
  simp [h2', h3', asAddr, hl]
theorem cmp_symm {x y : Stm} (h : cmpS x y ≠ 0) : cmpS y x ≠ 0 := by have := ordS.anti x y; omega
/-- A sorted list of which no two are copies. -/
theorem parted_of {l l' : List Stm} (hp : l'.Perm l) (hn : l.Pairwise fun x y => cmpS x y ≠ 0) : Parted l' := by
  have h := (hp.pairwise_iff (R := fun x y => cmpS x y ≠ 0) (fun h => cmp_symm h)).2 hn
  intro i h1 hi
  have hx := List.pairwise_iff_getElem.1 h (i - 1) i (by omega) hi (by omega)
  have e1 : l'.getD i noStm = l'[i] := by rw [List.getD_eq_getElem?_getD, List.getElem?_eq_getElem hi]; rfl
  have e2 : l'.getD (i - 1) noStm = l'[i - 1] := by rw [List.getD_eq_getElem?_getD, List.getElem?_eq_getElem (by omega)]; rfl
  rw [e1, e2]
  exact cmp_symm hx
theorem two_lists {w : World} {A : Option Addr} {n c : Nat} {la : List Stm} {B : Option Addr} {m k : Nat} {lb : List Stm} (ha : SRow w A n c la) (hb : SRow w B m k lb) :
    Lists (w.alloc (.cells #[.slice A n c, .slice B m k] 22)) (some ⟨w.heap.size, 0, none⟩) 2 2 [la, lb] := by
  refine ⟨_, Row.of_block (heap_alloc_new _ _) rfl, rfl, fun i hi => ?_⟩
  match i, hi with
  | 0, _ => exact ⟨A, n, c, rfl, ha.later (one_new _ _)⟩
  | 1, _ => exact ⟨B, m, k, rfl, hb.later (one_new _ _)⟩
set_option maxRecDepth 100000 in
set_option maxHeartbeats 4000000 in
theorem merge_any (A : Option Addr) (n c : Nat) (la : List Stm) (B : Option Addr) (m k : Nat) (lb : List Stm) (w : World) (ha : SRow w A n c la) (hb : SRow w B m k lb) (hsa : Sto la) (hsb : Sto lb) (h0 : 0 < n + m) (hn : (la ++ lb).Pairwise fun x y => cmpS x y ≠ 0) (hr : Rounds w) :
    Calls Tryz.prog 13 #[.agg #[.slice A n c], .agg #[.slice B m k]] w fun e w' => ∃ A2 n2 c2 er, e = .returned (.tuple #[.agg #[.slice A2 n2 c2], .int .i64 er]) ∧ (n + m ≤ 1000 → er = 0 ∧ n2 = n + m) ∧ (1000 < n + m → er = 3) ∧ Below w.heap.size w w' := by
  have hna : n ≤ 1000 := by have := ha.len; have := hsa.len; omega
  have hnb : m ≤ 1000 := by have := hb.len; have := hsb.len; omega
  have HV1 : Hid (∀ x, Below w.heap.size w x → Calls Tryz.prog 15 #[.agg #[.slice A n c]] x (SaysL (.bool true) x)) := Lib.hid fun x h => valid_any A n c la x (ha.later h) hsa (hr.later h)
  have HV2 : Hid (∀ x, Below w.heap.size w x → Calls Tryz.prog 15 #[.agg #[.slice B m k]] x (SaysL (.bool true) x)) := Lib.hid fun x h => valid_any B m k lb x (hb.later h) hsb (hr.later h)
  have HSL : Hid (sumLen [la, lb] = n + m) := Lib.hid (by unfold sumLen; simp [ha.len, hb.len])
  have HFL : Hid (([la, lb] : List (List Stm)).flatten = la ++ lb) := Lib.hid (by simp)
  have HCC : Hid (∀ x, Below w.heap.size w x → Calls Tryz.prog 45 #[.slice (some ⟨x.heap.size, 0, none⟩) 2 2] (x.alloc (.cells #[.slice A n c, .slice B m k] 22)) fun e w' => ∃ v, e = .returned v ∧ w'.ownsRow (x.heap.size + 1) 30 13 v (n + m) (stmsC (la ++ lb)) ∧ Below x.heap.size x w') := Lib.hid fun x h => by
    have hc := concat_any _ 2 2 [la, lb] _ (two_lists (ha.later h) (hb.later h)) (by omega) (by rw [HSL.out]; omega)
    refine Calls.mono hc ?_
    rintro e w' ⟨v, rfl, ho, hbb⟩
    rw [HSL.out, HFL.out] at ho
    refine ⟨v, rfl, ?_, (one_new _ _).trans (hbb.mono (by simp))⟩
    rw [show (x.alloc (.cells #[.slice A n c, .slice B m k] 22)).heap.size = x.heap.size + 1 by simp] at ho
    exact ho
  have HPN := Lib.hid hn
  clear ha hb hsa hsb hr hn HSL HFL
  have HB0 : Hid (Below w.heap.size w (((w.alloc (.cells #[.slice A n c] 24)).alloc (.cells #[.slice B m k] 24)).alloc (.cells #[.slice none 0 0] 24))) := Lib.hid ((((Below.refl _ w).alloc (Nat.le_refl _) _).alloc (by simp) _).alloc (by simp; omega) _)
  have HX0 : Hid ((((w.alloc (.cells #[.slice A n c] 24)).alloc (.cells #[.slice B m k] 24)).alloc (.cells #[.slice none 0 0] 24)).heap[w.heap.size]? = some (.cells #[.slice A n c] 24 (0, 0))) := Lib.hid ((Below.heap_alloc _ _ _ (by simp; omega)).trans ((Below.heap_alloc _ _ _ (by simp)).trans (heap_alloc_new _ _)))
  have HX1 : Hid ((((w.alloc (.cells #[.slice A n c] 24)).alloc (.cells #[.slice B m k] 24)).alloc (.cells #[.slice none 0 0] 24)).heap[w.heap.size + 1]? = some (.cells #[.slice B m k] 24 (0, 0))) := Lib.hid ((Below.heap_alloc _ _ _ (by simp)).trans (by
    have h := heap_alloc_new (w.alloc (.cells #[.slice A n c] 24)) (.cells #[.slice B m k] 24)
    rw [show (w.alloc (.cells #[.slice A n c] 24)).heap.size = w.heap.size + 1 by simp] at h
    exact h))
  have HX2 : Hid ((((w.alloc (.cells #[.slice A n c] 24)).alloc (.cells #[.slice B m k] 24)).alloc (.cells #[.slice none 0 0] 24)).heap[w.heap.size + 2]? = some (.cells #[.slice none 0 0] 24 (0, 0))) := Lib.hid (by
    have h := heap_alloc_new ((w.alloc (.cells #[.slice A n c] 24)).alloc (.cells #[.slice B m k] 24)) (.cells #[.slice none 0 0] 24)
    rw [show ((w.alloc (.cells #[.slice A n c] 24)).alloc (.cells #[.slice B m k] 24)).heap.size = w.heap.size + 2 by simp] at h
    exact h)
  have hc0 := cell_of_row _ _ 0 _ _ _ HX0.out
  simp only [List.getElem?_toArray, List.getElem?_cons_zero] at hc0
  go_enter Tryz.func13, Tryz.ntmps13
  go_wp2_with fail
  clear hc0
  generalize ((w.alloc (.cells #[.slice A n c] 24)).alloc (.cells #[.slice B m k] 24)).alloc (.cells #[.slice none 0 0] 24) = y0 at HB0 HX0 HX1 HX2 ⊢
  have HZ0 : Hid (w.heap.size + 2 < y0.heap.size) := Lib.hid (Array.getElem?_eq_some_iff.1 HX2.out).1
  refine (HV1.out y0 HB0.out).mono ?_
  rintro e y1 ⟨rfl, hb⟩
  replace HX0 := Lib.hid ((hb.block _ (by have := HZ0.out; omega)).trans HX0.out); replace HX1 := Lib.hid ((hb.block _ (by have := HZ0.out; omega)).trans HX1.out); replace HX2 := Lib.hid ((hb.block _ HZ0.out).trans HX2.out)
  replace HZ0 : Hid (w.heap.size + 2 < y1.heap.size) := Lib.hid (Nat.lt_of_lt_of_le HZ0.out hb.size); replace HB0 := Lib.hid (HB0.out.trans (hb.mono HB0.out.size))
  clear hb HV1
  have hc1 := cell_of_row _ _ 0 _ _ _ HX1.out
  simp only [List.getElem?_toArray, List.getElem?_cons_zero] at hc1
  go_wp2_with fail
  clear hc1
  refine (HV2.out y1 HB0.out).mono ?_
  rintro e y2 ⟨rfl, hb⟩
  replace HX0 := Lib.hid ((hb.block _ (by have := HZ0.out; omega)).trans HX0.out); replace HX1 := Lib.hid ((hb.block _ (by have := HZ0.out; omega)).trans HX1.out); replace HX2 := Lib.hid ((hb.block _ HZ0.out).trans HX2.out)
  replace HZ0 : Hid (w.heap.size + 2 < y2.heap.size) := Lib.hid (Nat.lt_of_lt_of_le HZ0.out hb.size); replace HB0 := Lib.hid (HB0.out.trans (hb.mono HB0.out.size))
  clear hb HV2
  have hc0 := cell_of_row _ _ 0 _ _ _ HX0.out
  have hc1 := cell_of_row _ _ 0 _ _ _ HX1.out
  simp only [List.getElem?_toArray, List.getElem?_cons_zero] at hc0 hc1
  go_wp2_with fail
  clear hc0 hc1
  refine (HCC.out y2 HB0.out).mono ?_
  rintro e y3 ⟨v, rfl, ho, hb⟩
  clear HCC HX0 HX1
  replace HX2 := Lib.hid ((hb.block _ HZ0.out).trans HX2.out)
  have HZ3 : Hid (y2.heap.size + 1 ≤ y3.heap.size) := Lib.hid (by
    rcases ho.2 with ⟨rfl, hz⟩ | ⟨g, cap, cur, rfl, hBg, hg, -⟩
    · omega
    · have := (Array.getElem?_eq_some_iff.1 hg).1; omega)
  replace HB0 := Lib.hid (HB0.out.trans (hb.mono HB0.out.size))
  clear hb
  have HSO := Lib.hid (sort_any (y2.heap.size + 1) v (n + m) (la ++ lb) y3 ho h0 (by omega) HZ3.out)
  clear ho
  go_wp2_with fail
  refine HSO.out.mono ?_
  rintro e y4 ⟨rfl, A4, c4, l', rfl, hp, -, hrow, hb⟩
  have HPA := Lib.hid (parted_of hp HPN.out)
  replace HX2 := Lib.hid ((hb.block _ (by have := HZ0.out; omega)).trans HX2.out)
  have HB4 : Hid (Below w.heap.size w y4) := Lib.hid (HB0.out.trans (hb.mono (by have := HZ0.out; omega)))
  have HCO := Lib.hid (compact_any A4 (n + m) c4 l' y4 hrow (by omega) HPA.out)
  replace HZ0 : Hid (w.heap.size + 2 < y4.heap.size) := Lib.hid (Nat.lt_of_lt_of_le HZ0.out (by have := hb.size; have := HZ3.out; omega))
  clear hp hrow hb HPN HPA HSO HB0 HZ3
  go_wp2_with fail
  refine HCO.out.mono ?_
  rintro e y5 ⟨rfl, hb⟩
  replace HX2 := Lib.hid ((hb.block _ HZ0.out).trans HX2.out)
  have HB5 : Hid (Below w.heap.size w y5) := Lib.hid (HB4.out.trans (hb.mono HB4.out.size))
  clear hb HCO HB4 HZ0
  have hc2 := cell_of_row _ _ 0 _ _ _ HX2.out
  simp only [List.getElem?_toArray, List.getElem?_cons_zero] at hc2
  have hfz : y5.frozen? ⟨w.heap.size + 2, 0, none⟩ = false := by unfold World.frozen?; rw [HX2.out]; simp
  by_cases hlim : n + m ≤ 1000
  · have hg : ¬ ((1000 : Int) < (n : Int) + (m : Int)) := by omega
    go_wp2_with fail
    refine bodyPost_ret (results_store2 (x := .slice A4 (n + m) c4) rfl rfl rfl (by simp [World.cell?_setCell_same, hc2])) rfl ?_
    exact ⟨_, _, _, _, rfl, fun _ => ⟨rfl, rfl⟩, fun h => absurd hlim (by omega), HB5.out.setCell (p := ⟨w.heap.size + 2, 0, none⟩) (by simp) _⟩
  · have hg : (1000 : Int) < (n : Int) + (m : Int) := by omega
    go_wp2_with fail
    refine bodyPost_ret (results_store2 (x := .slice none 0 0) rfl rfl rfl (by simp [World.cell?_setCell_same, hc2])) rfl ?_
    exact ⟨_, _, _, _, rfl, fun h => absurd h hlim, fun _ => rfl, HB5.out.setCell (p := ⟨w.heap.size + 2, 0, none⟩) (by simp) _⟩
end Go.Proofs.YtnjilfdmplbalaaGreatDoor
/- The walk of store's Add. -/
namespace Go.Proofs.YtnjilfdmplbalaaGreatDoor
open Go.RowKit
theorem results_store3 {fn : Func} {tmps : Array Value} {w : World} {s : Nat} {x v u : Value} (hr : fn.results = #[.cell 4 24, .tmp 5, .tmp 6]) (h2 : tmps.getD 4 undef = .pointer (some ⟨s, 0, none⟩)) (h3 : tmps.getD 5 undef = v) (h4 : tmps.getD 6 undef = u)
    (hc : w.cell? ⟨s, 0, none⟩ = some x) : (results fn tmps).run Tryz.prog w = .ok (.tuple #[.agg #[x], v, u]) w := by
  have h2' : tmps[4]?.getD undef = .pointer (some ⟨s, 0, none⟩) := by simpa using h2
  have h3' : tmps[5]?.getD undef = v := by simpa using h3
  have h4' : tmps[6]?.getD undef = u := by simpa using h4
  have hl := run_loadVar_mid (P := Tryz.prog) w s 0 24 [x] _ (fun j u hj => by
    match j, hj with
    | 0, hj => injection hj with hj; rw [← hj]; exact hc
    | j + 1, hj => cases hj) Tryz.underlying24 rfl (by kernel_rfl)
  unfold results
  rw [hr]
  simp [h2', h3', h4', asAddr, hl]
theorem stmsC_take (l : List Stm) (k : Nat) (h : k ≤ l.length) : (stmsC l).take (k * 13) = stmsC (l.take k) := by
  conv => lhs; rw [← List.take_append_drop k l, stmsC_app]
  rw [List.take_append_of_le_length (by rw [stmsC_len, List.length_take]; have : min k l.length = k := by omega
                                        rw [this]; exact Nat.le_refl _), List.take_of_length_le (by rw [stmsC_len, List.length_take]; have : min k l.length = k := by omega
                                                                                                    rw [this]; exact Nat.le_refl _)]
theorem SRow.take {w : World} {A : Option Addr} {n c : Nat} {l : List Stm} (h : SRow w A n c l) (k : Nat) (hk : k ≤ n) : SRow w A k c (l.take k) := by
  have := Row.take h k hk
  rw [stmsC_take l k (by rw [h.len]; exact hk)] at this
  exact this
theorem SRow.drop {w : World} {A : Option Addr} {n c : Nat} {l : List Stm} (h : SRow w A n c l) (k : Nat) (hk : k ≤ n) : SRow w (dropA A c k 13) (n - k) (c - k) (l.drop k) := by
  have := Row.drop h k hk
  rw [stmsC_drop] at this
  exact this
theorem stm_size : (Tryz.prog.info? 30).map (·.size) = some 13 := by kernel_rfl
theorem three_lists {w : World} {A : Option Addr} {n c : Nat} {l : List Stm} {B : Option Addr} {m k : Nat} {l2 : List Stm} (x : Stm) (ha : SRow w A n c l) (hb : SRow w B m k l2) :
    Lists ((w.alloc (.cells #[.int .i64 x.author, .int .i64 x.number, .string x.prev, .int .i64 x.time, .int .i64 x.kind, .int .i64 x.a, .int .i64 x.b, .int .i64 x.c, .slice none 0 0, .slice none 0 0, .string x.body, .int .i64 x.key, .string x.dig] 30)).alloc (.cells #[.slice A n c, .slice (some ⟨w.heap.size, 0, none⟩) 1 1, .slice B m k] 22)) (some ⟨w.heap.size + 1, 0, none⟩) 3 3 [l, [x], l2] := by
  have e : (w.alloc (.cells #[.int .i64 x.author, .int .i64 x.number, .string x.prev, .int .i64 x.time, .int .i64 x.kind, .int .i64 x.a, .int .i64 x.b, .int .i64 x.c, .slice none 0 0, .slice none 0 0, .string x.body, .int .i64 x.key, .string x.dig] 30)).heap.size = w.heap.size + 1 := by simp
  have h1 : SRow (w.alloc (.cells #[.int .i64 x.author, .int .i64 x.number, .string x.prev, .int .i64 x.time, .int .i64 x.kind, .int .i64 x.a, .int .i64 x.b, .int .i64 x.c, .slice none 0 0, .slice none 0 0, .string x.body, .int .i64 x.key, .string x.dig] 30)) (some ⟨w.heap.size, 0, none⟩) 1 1 [x] := Row.of_block (heap_alloc_new _ _) rfl
  have h0 := heap_alloc_new (w.alloc (.cells #[.int .i64 x.author, .int .i64 x.number, .string x.prev, .int .i64 x.time, .int .i64 x.kind, .int .i64 x.a, .int .i64 x.b, .int .i64 x.c, .slice none 0 0, .slice none 0 0, .string x.body, .int .i64 x.key, .string x.dig] 30)) (.cells #[.slice A n c, .slice (some ⟨w.heap.size, 0, none⟩) 1 1, .slice B m k] 22)
  rw [e] at h0
  have hb2 : Later w ((w.alloc (.cells #[.int .i64 x.author, .int .i64 x.number, .string x.prev, .int .i64 x.time, .int .i64 x.kind, .int .i64 x.a, .int .i64 x.b, .int .i64 x.c, .slice none 0 0, .slice none 0 0, .string x.body, .int .i64 x.key, .string x.dig] 30)).alloc (.cells #[.slice A n c, .slice (some ⟨w.heap.size, 0, none⟩) 1 1, .slice B m k] 22)) := (one_new _ _).trans ((one_new _ _).mono (by simp))
  refine ⟨_, Row.of_block h0 rfl, rfl, fun i hi => ?_⟩
  match i, hi with
  | 0, _ => exact ⟨A, n, c, rfl, ha.later hb2⟩
  | 1, _ => exact ⟨_, 1, 1, rfl, h1.later (one_new _ _)⟩
  | 2, _ => exact ⟨B, m, k, rfl, hb.later hb2⟩
/-- What Add returns: whether the statement was there, whether the store was full. -/
def Added (A : Option Addr) (n c : Nat) (l : List Stm) (x : Stm) (p : Nat) (w : World) (e : Ending) (w' : World) : Prop :=
  ∃ A2 n2 c2 b er, e = .returned (.tuple #[.agg #[.slice A2 n2 c2], .bool b, .int .i64 er]) ∧ Below w.heap.size w w' ∧
    ((p < n ∧ cmpS (l.getD p noStm) x = 0) → A2 = A ∧ n2 = n ∧ c2 = c ∧ b = false ∧ er = 0) ∧
    (¬ (p < n ∧ cmpS (l.getD p noStm) x = 0) → n = 1000 → A2 = A ∧ n2 = n ∧ c2 = c ∧ b = false ∧ er = 3) ∧
    (¬ (p < n ∧ cmpS (l.getD p noStm) x = 0) → n < 1000 → n2 = n + 1 ∧ b = true ∧ er = 0 ∧ SRow w' A2 n2 c2 (l.take p ++ [x] ++ l.drop p))
set_option maxRecDepth 100000 in
set_option maxHeartbeats 4000000 in
theorem add_any (A : Option Addr) (n c : Nat) (l : List Stm) (x : Stm) (w : World) (ha : SRow w A n c l) (hsa : Sto l) (hx : Well x) (p : Nat) (hp : p ≤ n) (hlow : ∀ i, i < p → cmpS (l.getD i noStm) x < 0) (hhigh : ∀ i, p ≤ i → i < n → 0 ≤ cmpS (l.getD i noStm) x) (hr : Rounds w) :
    Calls Tryz.prog 11 #[.agg #[.slice A n c], stmV x none 0 0 none 0 0] w (Added A n c l x p w) := by
  have hna : n ≤ 1000 := by have := ha.len; have := hsa.len; omega
  have HNL := Lib.hid ha.len
  have HRR : Hid (∀ y, Below w.heap.size w y → Rounds y) := Lib.hid fun y h => hr.later h
  have HRW : Hid (∀ y, Below w.heap.size w y → SRow y A n c l) := Lib.hid fun y h => ha.later h
  have HV1 : Hid (∀ x, Below w.heap.size w x → Calls Tryz.prog 15 #[.agg #[.slice A n c]] x (SaysL (.bool true) x)) := Lib.hid fun x h => valid_any A n c l x (ha.later h) hsa (hr.later h)
  have HC1 : Hid (∀ y, Below w.heap.size w y → Calls Tryz.prog 41 #[stmV x none 0 0 none 0 0] y (SaysL (.int .i64 0) y)) := Lib.hid fun y h => by
    have := check_any x none 0 0 none 0 0 y (by rw [hx.bare.1]; exact Row.nilRow _ _) (by rw [hx.bare.2.1]; exact Row.nilRow _ _) (by omega) (by omega) (by have := hx.bare.2.2.body; omega)
    rw [hx.check] at this; exact this
  have HC2 : Hid (∀ y, Below w.heap.size w y → Calls Tryz.prog 42 #[stmV x none 0 0 none 0 0] y (SaysL (.bool true) y)) := Lib.hid fun y h => by
    have := sealed_any x none 0 0 none 0 0 y (by rw [hx.bare.1]; exact Row.nilRow _ _) (by rw [hx.bare.2.1]; exact Row.nilRow _ _) hx.bare.2.2 (hr.later h)
    rw [hx.sealed] at this; exact this
  have HBS : Hid (∀ y, Below w.heap.size w y → Calls Tryz.prog 43 #[.slice A n c, stmV x none 0 0 none 0 0, .func (.func 44) #[] #[]] y (SaysL (.tuple #[.int .i64 p, .bool (decide (p < n) && decide (cmpS (l.getD p noStm) x = 0))]) y)) := Lib.hid fun y h =>
    bsearch_any A n c l x y (ha.later h) (by omega) p hp hlow hhigh
  have HCC : Hid (∀ y, Below w.heap.size w y → Calls Tryz.prog 45 #[.slice (some ⟨y.heap.size + 1, 0, none⟩) 3 3] ((y.alloc (.cells #[.int .i64 x.author, .int .i64 x.number, .string x.prev, .int .i64 x.time, .int .i64 x.kind, .int .i64 x.a, .int .i64 x.b, .int .i64 x.c, .slice none 0 0, .slice none 0 0, .string x.body, .int .i64 x.key, .string x.dig] 30)).alloc (.cells #[.slice A p c, .slice (some ⟨y.heap.size, 0, none⟩) 1 1, .slice (dropA A c p 13) (n - p) (c - p)] 22)) fun e w' => ∃ A2 c2, e = .returned (.slice A2 (n + 1) c2) ∧ SRow w' A2 (n + 1) c2 (l.take p ++ [x] ++ l.drop p) ∧ Below y.heap.size y w' ∧ ∀ ad, A2 = some ad → y.heap.size ≤ ad.block) := Lib.hid fun y h => by
    have hsum : sumLen [l.take p, [x], l.drop p] = n + 1 := by unfold sumLen; have := ha.len; simp; omega
    have hfl : ([l.take p, [x], l.drop p] : List (List Stm)).flatten = l.take p ++ [x] ++ l.drop p := by simp
    have hc := concat_any _ 3 3 [l.take p, [x], l.drop p] _ (three_lists x (SRow.take (ha.later h) p hp) (SRow.drop (ha.later h) p hp)) (by omega) (by rw [hsum]; omega)
    refine Calls.mono hc ?_
    rintro e w' ⟨v, rfl, ho, hbb⟩
    rw [hsum, hfl] at ho
    obtain ⟨A2, c2, rfl, hrow⟩ := Row.of_own ho
    exact ⟨A2, c2, rfl, hrow, ((one_new _ _).trans ((one_new _ _).mono (by simp))).trans (hbb.mono (by simp; omega)), fun ad hA => by
      subst hA
      have := (World.ownsRow.lt ho ad.block rfl).1
      simp at this
      omega⟩
  have hs1 := fun w => run_slice_to (P := Tryz.prog) (t := 22) Tryz.underlying22 stm_size (k := p) ha (i := (p : Int)) rfl hp .i64 w
  have hs2 := fun w => run_slice_from (P := Tryz.prog) (t := 22) Tryz.underlying22 stm_size (A := A) (n := n) (c := c) (k := p) (i := (p : Int)) rfl hp .i64 w
  have HS := Lib.hid (And.intro hs1 hs2)
  clear ha hsa hr hx hlow hhigh hs1 hs2
  unfold stmV at HC1 HC2 HBS ⊢
  have HB0 : Hid (Below w.heap.size w (((w.alloc (.cells #[.slice A n c] 24)).alloc (.cells #[.int .i64 x.author, .int .i64 x.number, .string x.prev, .int .i64 x.time, .int .i64 x.kind, .int .i64 x.a, .int .i64 x.b, .int .i64 x.c, .slice none 0 0, .slice none 0 0, .string x.body, .int .i64 x.key, .string x.dig] 30)).alloc (.cells #[.slice none 0 0] 24))) := Lib.hid ((((Below.refl _ w).alloc (Nat.le_refl _) _).alloc (by simp) _).alloc (by simp; omega) _)
  have HX0 : Hid ((((w.alloc (.cells #[.slice A n c] 24)).alloc (.cells #[.int .i64 x.author, .int .i64 x.number, .string x.prev, .int .i64 x.time, .int .i64 x.kind, .int .i64 x.a, .int .i64 x.b, .int .i64 x.c, .slice none 0 0, .slice none 0 0, .string x.body, .int .i64 x.key, .string x.dig] 30)).alloc (.cells #[.slice none 0 0] 24)).heap[w.heap.size]? = some (.cells #[.slice A n c] 24 (0, 0))) := Lib.hid ((Below.heap_alloc _ _ _ (by simp; omega)).trans ((Below.heap_alloc _ _ _ (by simp)).trans (heap_alloc_new _ _)))
  have HX1 : Hid ((((w.alloc (.cells #[.slice A n c] 24)).alloc (.cells #[.int .i64 x.author, .int .i64 x.number, .string x.prev, .int .i64 x.time, .int .i64 x.kind, .int .i64 x.a, .int .i64 x.b, .int .i64 x.c, .slice none 0 0, .slice none 0 0, .string x.body, .int .i64 x.key, .string x.dig] 30)).alloc (.cells #[.slice none 0 0] 24)).heap[w.heap.size + 1]? = some (.cells #[.int .i64 x.author, .int .i64 x.number, .string x.prev, .int .i64 x.time, .int .i64 x.kind, .int .i64 x.a, .int .i64 x.b, .int .i64 x.c, .slice none 0 0, .slice none 0 0, .string x.body, .int .i64 x.key, .string x.dig] 30 (0, 0))) := Lib.hid ((Below.heap_alloc _ _ _ (by simp)).trans (by
    have h := heap_alloc_new (w.alloc (.cells #[.slice A n c] 24)) (.cells #[.int .i64 x.author, .int .i64 x.number, .string x.prev, .int .i64 x.time, .int .i64 x.kind, .int .i64 x.a, .int .i64 x.b, .int .i64 x.c, .slice none 0 0, .slice none 0 0, .string x.body, .int .i64 x.key, .string x.dig] 30)
    rw [show (w.alloc (.cells #[.slice A n c] 24)).heap.size = w.heap.size + 1 by simp] at h
    exact h))
  have HX2 : Hid ((((w.alloc (.cells #[.slice A n c] 24)).alloc (.cells #[.int .i64 x.author, .int .i64 x.number, .string x.prev, .int .i64 x.time, .int .i64 x.kind, .int .i64 x.a, .int .i64 x.b, .int .i64 x.c, .slice none 0 0, .slice none 0 0, .string x.body, .int .i64 x.key, .string x.dig] 30)).alloc (.cells #[.slice none 0 0] 24)).heap[w.heap.size + 2]? = some (.cells #[.slice none 0 0] 24 (0, 0))) := Lib.hid (by
    have h := heap_alloc_new ((w.alloc (.cells #[.slice A n c] 24)).alloc (.cells #[.int .i64 x.author, .int .i64 x.number, .string x.prev, .int .i64 x.time, .int .i64 x.kind, .int .i64 x.a, .int .i64 x.b, .int .i64 x.c, .slice none 0 0, .slice none 0 0, .string x.body, .int .i64 x.key, .string x.dig] 30)) (.cells #[.slice none 0 0] 24)
    rw [show ((w.alloc (.cells #[.slice A n c] 24)).alloc (.cells #[.int .i64 x.author, .int .i64 x.number, .string x.prev, .int .i64 x.time, .int .i64 x.kind, .int .i64 x.a, .int .i64 x.b, .int .i64 x.c, .slice none 0 0, .slice none 0 0, .string x.body, .int .i64 x.key, .string x.dig] 30)).heap.size = w.heap.size + 2 by simp] at h
    exact h)
  have hc0 := cell_of_row _ _ 0 _ _ _ HX0.out
  simp only [List.getElem?_toArray, List.getElem?_cons_zero] at hc0
  go_enter Tryz.func11, Tryz.ntmps11
  go_wp2_with fail
  clear hc0
  generalize (((w.alloc (.cells #[.slice A n c] 24)).alloc (.cells #[.int .i64 x.author, .int .i64 x.number, .string x.prev, .int .i64 x.time, .int .i64 x.kind, .int .i64 x.a, .int .i64 x.b, .int .i64 x.c, .slice none 0 0, .slice none 0 0, .string x.body, .int .i64 x.key, .string x.dig] 30)).alloc (.cells #[.slice none 0 0] 24)) = y0 at HB0 HX0 HX1 HX2 ⊢
  have HZ0 : Hid (w.heap.size + 2 < y0.heap.size) := Lib.hid (Array.getElem?_eq_some_iff.1 HX2.out).1
  refine (HV1.out y0 HB0.out).mono ?_
  rintro e y1 ⟨rfl, hb⟩
  replace HX0 := Lib.hid ((hb.block _ (by have := HZ0.out; omega)).trans HX0.out); replace HX1 := Lib.hid ((hb.block _ (by have := HZ0.out; omega)).trans HX1.out); replace HX2 := Lib.hid ((hb.block _ HZ0.out).trans HX2.out)
  replace HZ0 : Hid (w.heap.size + 2 < y1.heap.size) := Lib.hid (Nat.lt_of_lt_of_le HZ0.out hb.size); replace HB0 := Lib.hid (HB0.out.trans (hb.mono HB0.out.size))
  clear hb
  have hx := HX1.out
  obtain ⟨hd0, hd1, hd2, hd3, hd4, hd5, hd6, hd7, hd8, hd9, hd10, hd11, hd12⟩ := stm_cells (A := none) (n := 0) (c := 0) (B := none) (m := 0) (k := 0) (s := x) hx
  clear hx
  go_wp2_with fail
  clear hd0 hd1 hd2 hd3 hd4 hd5 hd6 hd7 hd8 hd9 hd10 hd11 hd12 HV1
  refine (HC1.out y1 HB0.out).mono ?_
  rintro e y2 ⟨rfl, hb⟩
  replace HX0 := Lib.hid ((hb.block _ (by have := HZ0.out; omega)).trans HX0.out); replace HX1 := Lib.hid ((hb.block _ (by have := HZ0.out; omega)).trans HX1.out); replace HX2 := Lib.hid ((hb.block _ HZ0.out).trans HX2.out)
  replace HZ0 : Hid (w.heap.size + 2 < y2.heap.size) := Lib.hid (Nat.lt_of_lt_of_le HZ0.out hb.size); replace HB0 := Lib.hid (HB0.out.trans (hb.mono HB0.out.size))
  clear hb
  have hx := HX1.out
  obtain ⟨hd0, hd1, hd2, hd3, hd4, hd5, hd6, hd7, hd8, hd9, hd10, hd11, hd12⟩ := stm_cells (A := none) (n := 0) (c := 0) (B := none) (m := 0) (k := 0) (s := x) hx
  clear hx
  go_wp2_with fail
  clear hd0 hd1 hd2 hd3 hd4 hd5 hd6 hd7 hd8 hd9 hd10 hd11 hd12 HC1
  refine (HC2.out y2 HB0.out).mono ?_
  rintro e y3 ⟨rfl, hb⟩
  replace HX0 := Lib.hid ((hb.block _ (by have := HZ0.out; omega)).trans HX0.out); replace HX1 := Lib.hid ((hb.block _ (by have := HZ0.out; omega)).trans HX1.out); replace HX2 := Lib.hid ((hb.block _ HZ0.out).trans HX2.out)
  replace HZ0 : Hid (w.heap.size + 2 < y3.heap.size) := Lib.hid (Nat.lt_of_lt_of_le HZ0.out hb.size); replace HB0 := Lib.hid (HB0.out.trans (hb.mono HB0.out.size))
  clear hb
  have hx := HX1.out
  obtain ⟨hd0, hd1, hd2, hd3, hd4, hd5, hd6, hd7, hd8, hd9, hd10, hd11, hd12⟩ := stm_cells (A := none) (n := 0) (c := 0) (B := none) (m := 0) (k := 0) (s := x) hx
  clear hx
  have hc0 := cell_of_row _ _ 0 _ _ _ HX0.out
  simp only [List.getElem?_toArray, List.getElem?_cons_zero] at hc0
  go_wp2_with fail
  clear hd0 hd1 hd2 hd3 hd4 hd5 hd6 hd7 hd8 hd9 hd10 hd11 hd12 hc0 HC2
  refine (HBS.out y3 HB0.out).mono ?_
  rintro e y4 ⟨rfl, hb⟩
  replace HX0 := Lib.hid ((hb.block _ (by have := HZ0.out; omega)).trans HX0.out); replace HX1 := Lib.hid ((hb.block _ (by have := HZ0.out; omega)).trans HX1.out); replace HX2 := Lib.hid ((hb.block _ HZ0.out).trans HX2.out)
  replace HZ0 : Hid (w.heap.size + 2 < y4.heap.size) := Lib.hid (Nat.lt_of_lt_of_le HZ0.out hb.size); replace HB0 := Lib.hid (HB0.out.trans (hb.mono HB0.out.size))
  clear hb
  clear HBS
  have hc0 := cell_of_row _ _ 0 _ _ _ HX0.out
  simp only [List.getElem?_toArray, List.getElem?_cons_zero] at hc0
  by_cases hth : p < n ∧ cmpS (l.getD p noStm) x = 0
  · have hb1 : (decide (p < n) && decide (cmpS (l.getD p noStm) x = 0)) = true := by rw [decide_eq_true hth.1, decide_eq_true hth.2]; rfl
    have HTH := Lib.hid hth; clear hth
    rw [hb1]
    clear hb1
    have hc2 := cell_of_row _ _ 0 _ _ _ HX2.out
    simp only [List.getElem?_toArray, List.getElem?_cons_zero] at hc2
    have hfz : y4.frozen? ⟨w.heap.size + 2, 0, none⟩ = false := by unfold World.frozen?; rw [HX2.out]; simp
    go_wp2_with fail
    refine bodyPost_ret (results_store3 (x := .slice A n c) (v := .bool false) (u := .int .i64 0) rfl rfl rfl rfl (by simp [World.cell?_setCell_same, hc2])) rfl ?_
    unfold Added
    exact ⟨_, _, _, _, _, rfl, HB0.out.setCell (p := ⟨w.heap.size + 2, 0, none⟩) (by simp) _, fun _ => ⟨rfl, rfl, rfl, rfl, rfl⟩, fun h => absurd HTH.out h, fun h => absurd HTH.out h⟩
  · have hb1 : (decide (p < n) && decide (cmpS (l.getD p noStm) x = 0)) = false := by
      rcases Classical.not_and_iff_not_or_not.1 hth with h | h
      · rw [decide_eq_false h]; rfl
      · rw [decide_eq_false h, Bool.and_false]
    have HTH := Lib.hid hth; clear hth
    rw [hb1]
    clear hb1
    by_cases hfull : n = 1000
    · subst hfull
      have hc2 := cell_of_row _ _ 0 _ _ _ HX2.out
      simp only [List.getElem?_toArray, List.getElem?_cons_zero] at hc2
      have hfz : y4.frozen? ⟨w.heap.size + 2, 0, none⟩ = false := by unfold World.frozen?; rw [HX2.out]; simp
      go_wp2_with fail
      refine bodyPost_ret (results_store3 (x := .slice A 1000 c) (v := .bool false) (u := .int .i64 3) rfl rfl rfl rfl (by simp [World.cell?_setCell_same, hc2])) rfl ?_
      unfold Added
      exact ⟨_, _, _, _, _, rfl, HB0.out.setCell (p := ⟨w.heap.size + 2, 0, none⟩) (by simp) _, fun h => absurd h HTH.out, fun _ _ => ⟨rfl, rfl, rfl, rfl, rfl⟩, fun _ h => absurd h (by omega)⟩
    · have hfu : ¬ ((n : Int) = 1000) := by omega
      go_wp2_with fail
      clear hc0
      have hb : Below y4.heap.size y4 y4.drew := (Below.refl _ _).drew
      replace HX0 := Lib.hid ((hb.block _ (by have := HZ0.out; omega)).trans HX0.out); replace HX1 := Lib.hid ((hb.block _ (by have := HZ0.out; omega)).trans HX1.out); replace HX2 := Lib.hid ((hb.block _ HZ0.out).trans HX2.out)
      replace HZ0 : Hid (w.heap.size + 2 < y4.drew.heap.size) := Lib.hid (Nat.lt_of_lt_of_le HZ0.out hb.size); replace HB0 := Lib.hid (HB0.out.trans (hb.mono HB0.out.size))
      clear hb
      have hc0 : ∀ z, (fut Later y4.drew z).cell? ⟨w.heap.size, 0, none⟩ = some (.slice A n c) := fun z => by
        have h := fut_ok (F := Later) Later.refl y4.drew z
        have h2 := (h.block _ (by have := HZ0.out; omega)).trans HX0.out
        have h3 := cell_of_row _ _ 0 _ _ _ h2
        simpa using h3
      obtain ⟨hs1, hs2⟩ := HS.out
      refine wp_region_grow (by kernel_rfl) Later Later.refl (fun _ _ _ => Later.trans) [0, 1, 2, 3, 4, 5, 6, 7, 8, 9] [] (by kernel_rfl) (by kernel_rfl) (by kernel_rfl) ?_
      simp only [List.map_cons, List.map_nil, pick, List.getD_cons_zero, List.getD_cons_succ]
      refine wpGrow_nil ?_
      repeat (go_big_quiet_step (fail))
      refine wpQuiet_nil ?_
      clear hs1 hs2 hc0
      generalize y4.drew = y5 at *
      have hx := HX1.out
      obtain ⟨hd0, hd1, hd2, hd3, hd4, hd5, hd6, hd7, hd8, hd9, hd10, hd11, hd12⟩ := stm_cells (A := none) (n := 0) (c := 0) (B := none) (m := 0) (k := 0) (s := x) hx
      clear hx
      go_wp2_with fail
      clear hd0 hd1 hd2 hd3 hd4 hd5 hd6 hd7 hd8 hd9 hd10 hd11 hd12
      refine (HCC.out y5 HB0.out).mono ?_
      rintro e y6 ⟨A2, c2, rfl, hrow, hb, had⟩
      have HROW := Lib.hid hrow; have HAD : Hid (∀ ad, A2 = some ad → w.heap.size + 2 < ad.block) := Lib.hid fun ad h => Nat.lt_of_lt_of_le HZ0.out (had ad h); clear hrow HCC had
      replace HX0 := Lib.hid ((hb.block _ (by have := HZ0.out; omega)).trans HX0.out); replace HX1 := Lib.hid ((hb.block _ (by have := HZ0.out; omega)).trans HX1.out); replace HX2 := Lib.hid ((hb.block _ HZ0.out).trans HX2.out)
      replace HZ0 : Hid (w.heap.size + 2 < y6.heap.size) := Lib.hid (Nat.lt_of_lt_of_le HZ0.out hb.size); replace HB0 := Lib.hid (HB0.out.trans (hb.mono HB0.out.size))
      clear hb
      have hc2 := cell_of_row _ _ 0 _ _ _ HX2.out
      simp only [List.getElem?_toArray, List.getElem?_cons_zero] at hc2
      have hfz : y6.frozen? ⟨w.heap.size + 2, 0, none⟩ = false := by unfold World.frozen?; rw [HX2.out]; simp
      go_wp2_with fail
      refine bodyPost_ret (results_store3 (x := .slice A2 (n + 1) c2) (v := .bool true) (u := .int .i64 0) rfl rfl rfl rfl (by simp [World.cell?_setCell_same, hc2])) rfl ?_
      unfold Added
      refine ⟨_, _, _, _, _, rfl, HB0.out.setCell (p := ⟨w.heap.size + 2, 0, none⟩) (by simp) _, fun h => absurd h HTH.out, fun _ h => absurd h hfull, fun _ _ => ⟨rfl, rfl, rfl, ?_⟩⟩
      exact Row.keep HROW.out fun ad hA h1 hlt => Below.heap_setCell _ _ _ _ (by have := HAD.out ad hA; simp; omega)
end Go.Proofs.YtnjilfdmplbalaaGreatDoor
