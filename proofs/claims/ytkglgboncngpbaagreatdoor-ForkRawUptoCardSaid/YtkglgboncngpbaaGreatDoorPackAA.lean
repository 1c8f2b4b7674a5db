import Derived.OrdersHeld
import Derived.Deep.RegionHeld3
import Derived.BigQuiet
import Derived.Below
import Derived.WalkKit
import Derived.Laws.BitsAllLaws
import Derived.Lib.SlBytesRow
import Derived.WalkSpells
import Derived.OwnWalk
import Derived.Laws.OwnMore
import Derived.Deep.AppendSrc
import Derived.Laws.CopyRow
import Derived.Lib.Hide
import Derived.Test.YtkglgboncngpbaaGreatDoorRows
import Derived.KernelRfl
import Derived.Outline
/- A region that draws its order, walked once in an order of the prover's: readers first, then one operation that may make memory, and so on. Plain facts over any program. -/
namespace Go.Proofs.YtkglgboncngpbaaGreatDoor
open Go.RowKit Go

def isRead (o : Oper) : Bool :=
  match o.op with
  | .move _ | .assign _ | .pick .. | .binOp .. | .unOp .. | .convert .. | .slice .. | .fieldAddr .. | .field .. | .indexAddr .. | .index .. | .load .. | .extract .. | .lookup .. | .nilCheck _ => true
  | .call c => match c.callee with | .builtin .len => true | .builtin .cap => true | .builtin .min => true | .builtin .max => true | _ => false
  | _ => false

theorem andThen_value {r : Result Value} {n : Next} {w' : World} (h : (r.andThen fun x w => (Result.ok (Next.value x) w)) = .ok n w') : ∃ v, n = .value v := by
  cases r with
  | ok x w => simp only [Result.andThen_ok] at h; injection h with h1 h2; exact ⟨_, h1.symm⟩
  | halt x w => cases h
theorem run_v {P : Program} {s : Sem Value} {w w' : World} {n : Next} (h : (do pure (Next.value (← s)) : Sem Next).run P w = .ok n w') : ∃ v, n = .value v := by
  rw [Sem.run_bind] at h; exact andThen_value h
theorem run_nilDeref {P : Program} {w w' : World} {n : Next} (h : (runtimePanic .nilDeref : Sem Next).run P w = .ok n w') : False := by
  simp [runtimePanic, goPanic, program, Sem.run] at h

theorem andThen_some {α β : Type} {r : Result α} {f : α → World → Result β} {y : β} {w' : World} (h : r.andThen f = .ok y w') : ∃ x w, f x w = .ok y w' := by
  cases r with
  | ok x w => exact ⟨x, w, h⟩
  | halt x w => cases h
theorem read_value {P : Program} {o : Oper} (h : isRead o = true) {ρ : Operand → Value} {w w' : World} {n : Next} (hr : (execOp ρ o).run P w = .ok n w') : ∃ v, n = .value v := by
  obtain ⟨dst, op, t, pos, after, g⟩ := o
  cases op with
  | call c =>
    simp only [isRead] at h
    obtain ⟨cal, args, tys⟩ := c
    simp only [execOp, resolve] at hr
    split at h <;> first | cases h | skip
    all_goals (rename_i hc; simp only at hc; subst hc; simp only [Sem.run_bind, Sem.run_pure, Result.andThen_ok, invoke, builtin] at hr; exact andThen_value hr)
  | nilCheck x =>
    simp only [execOp] at hr
    split at hr
    · exact (run_nilDeref hr).elim
    · exact (run_nilDeref hr).elim
    · exact (run_nilDeref hr).elim
    · split at hr
      · exact (run_nilDeref hr).elim
      · rw [Sem.run_bind] at hr
        obtain ⟨p, w1, hr⟩ := andThen_some hr
        rw [Sem.run_bind] at hr
        obtain ⟨b, w2, hr⟩ := andThen_some hr
        split at hr
        · rw [Sem.run_bind] at hr; simp [unsupported] at hr
        · simp at hr; exact ⟨_, hr.1.symm⟩
      · simp at hr; exact ⟨_, hr.1.symm⟩
    · simp at hr; exact ⟨_, hr.1.symm⟩
  | pick c a b =>
    simp only [execOp] at hr
    rw [Sem.run_bind] at hr
    obtain ⟨b, w1, hr⟩ := andThen_some hr
    simp at hr; exact ⟨_, hr.1.symm⟩
  | move _ | assign _ => simp only [execOp, Sem.run_pure] at hr; injection hr with h1 _; exact ⟨_, h1.symm⟩
  | binOp _ _ _ _ _ | unOp _ _ _ | convert _ _ _ | slice _ _ _ _ _ | fieldAddr _ _ _ | field _ _ _ | indexAddr _ _ _ | index _ _ _ | load _ _ | extract _ _ | lookup _ _ _ _ => exact run_v hr
  | _ => cases h

/-- w' is a world that may come behind w: below the size of w's heap nothing has turned. -/
def Later (w w' : World) : Prop := Below w.heap.size w w'
theorem Later.refl (w : World) : Later w w := Below.refl _ _
theorem Later.trans {a b c : World} (h : Later a b) (k : Later b c) : Later a c := Below.trans h (k.mono h.size)
theorem Later.drew (w : World) : Later w w.drew := (Below.refl _ _).drew
open Classical in
/-- x, if x may come behind w; else w. -/
noncomputable def fut (F : World → World → Prop) (w x : World) : World := if F w x then x else w
def Futs (F : World → World → Prop) (w : World) : World → Prop := fun w' => ∃ x, w' = fut F w x
attribute [go_sem] Futs
theorem Futs.of {F : World → World → Prop} {w w' : World} (h : F w w') : Futs F w w' := ⟨w', by unfold fut; rw [if_pos h]⟩
theorem fut_ok {F : World → World → Prop} (hr : ∀ w, F w w) (w x : World) : F w (fut F w x) := by
  unfold fut; split
  · assumption
  · exact hr w
theorem Futs.to {F : World → World → Prop} (hr : ∀ w, F w w) {w w' : World} (h : Futs F w w') : F w w' := by
  obtain ⟨x, rfl⟩ := h; exact fut_ok hr w x
/-- What is asked at the end of a piece of a region; no other end is let in. -/
def pieceEnd (N : Act → World → Prop) : Exit → Act → World → Prop
  | .normal, a, w => N a w
  | _, _, _ => False
theorem pieceEnd_normal {N : Act → World → Prop} {a : Act} {w : World} (h : N a w) : pieceEnd N .normal a w := h
theorem pieceEnd_panic {N : Act → World → Prop} {c : List PanicEntry} {a : Act} {w : World} (h : pieceEnd N (.panic c) a w) : False := h

def noOper : Oper := { dst := none, op := .panic (.const undef), type := 0, pos := "", after := #[], guard := none }
def pick (l : List Oper) (i : Nat) : Oper := l.getD i noOper
section
variable {P : Program} {md : Region.Mode} {F : World → World → Prop}

/-- A region's operations in an order of the prover's, piece by piece: readers, then one operation that may make memory. -/
def wpGrow (P : Program) (ops : Array Oper) (F : World → World → Prop) (Q : Act → World → Prop) (last : List Oper) : List (List Oper × Oper) → Act → World → Prop
  | [], a, w => wpQuiet P ops (Futs F w) (fun a' => Q a' w) last a
  | (rs, e) :: more, a, w => wpQuiet P ops (Futs F w) (fun a' => wpList P ops (pieceEnd fun a'' w' => F w w' ∧ wpGrow P ops F Q last more a'' w') [e] a' w) rs a

def setAll : List Nat → Array Bool → Array Bool
  | [], l => l
  | i :: is, l => setAll is (l.setIfInBounds i true)
def readsB (md : Region.Mode) (ops : List Oper) : List Nat → Array Bool → Bool
  | [], _ => true
  | i :: is, l => (Region.ready md ops.toArray l).contains i && Region.free md ops.toArray l i && isRead (pick ops i) && decide (i < ops.length) && readsB md ops is (l.setIfInBounds i true)
/-- The order may be taken: each reader may come up, and is free; where an operation of the other kind comes up, no other one may. -/
def growB (md : Region.Mode) (ops : List Oper) (last : List Nat) : List (List Nat × Nat) → Array Bool → Bool
  | [], listed => readsB md ops last listed && (Region.ready md ops.toArray (setAll last listed)).isEmpty
  | (rs, e) :: more, listed => readsB md ops rs listed && (Region.ready md ops.toArray (setAll rs listed) == [e]) && decide (e < ops.length) && growB md ops last more ((setAll rs listed).setIfInBounds e true)
def growLen (last : List Nat) : List (List Nat × Nat) → Nat
  | [] => last.length
  | (rs, _) :: more => rs.length + (growLen last more + 1)

theorem pick_at {l : List Oper} {i : Nat} (h : i < l.length) : l.toArray[i]? = some (pick l i) := by
  simp [pick, h]
theorem quiet_yields {ops : Array Oper} {C : World → Prop} {o : Oper} {a : Act} {v : Value} (ho : isRead o = true) (hw : Region.wanted o (yielded ops a.tmps) = true) (h : ∀ w, C w → o.quietAt P a C w v) : YieldsIf P ops C o v a := by
  refine .inl ⟨hw, fun w hC => ?_⟩
  have h1 := h w hC
  unfold Oper.quietAt at h1
  cases hr : (execOp a.eval o).run P w with
  | halt x w' => rw [hr] at h1; exact h1.elim
  | ok n w' =>
    obtain ⟨u, rfl⟩ := read_value ho hr
    rw [hr] at h1
    obtain ⟨rfl, rfl⟩ := h1
    rfl
theorem wpAnyH_mono {ops : Array Oper} {Q : Exit → Act → World → Prop} {S S' : World → Prop} (hS : ∀ w, S' w → S w) : ∀ (fuel : Nat) (listed : Array Bool) (a : Act) (w : World), wpAnyH P md ops Q S' fuel listed a w → wpAnyH P md ops Q S fuel listed a w
  | 0, _, _, _, h => h
  | fuel + 1, _, _, _, h => ⟨h.1, fun i hi => wpOp_mono (fun a' w' h' => ⟨hS _ h'.1, wpAnyH_mono hS fuel _ a' w' h'.2⟩) (h.2 i hi)⟩
theorem wp_post {o : Oper} {a : Act} {w : World} {K : Act → World → Prop} {Q Q' : Exit → Act → World → Prop} (hp : ∀ c a w, Q (.panic c) a w → Q' (.panic c) a w) (hl : LetsOut Q → LetsOut Q') (h : o.wp P a w K Q) : o.wp P a w K Q' := by
  unfold Oper.wp at *
  generalize (execOp a.eval o).run P w = r at *
  cases r with
  | ok n w' =>
    cases n <;> simp only [Oper.upon] at h ⊢ <;>
      first
        | exact h
        | exact Calls.mono h (fun e w'' he => by cases e <;> first | exact he | exact hp _ _ _ he | exact hl he)
  | halt x w' => cases x <;> simp only [Oper.upon] at h ⊢; exact hp _ _ _ h
theorem wpAnyH_reads {l : List Oper} {Q0 : Exit → Act → World → Prop} {C : World → Prop} {w : World} (hs : Region.noSelect l.toArray = true) (hC : C w) {Qa : Act → Prop} {fuel : Nat} :
    ∀ (is : List Nat) (listed : Array Bool) (a : Act), readsB md l is listed = true → wpQuiet P l.toArray C Qa (is.map (pick l)) a →
      (∀ a', Qa a' → wpAnyH P md l.toArray (NoPanic Q0) C fuel (setAll is listed) a' w) → wpAnyH P md l.toArray (NoPanic Q0) C (is.length + fuel) listed a w
  | [], listed, a, _, h, hk => by rw [List.length_nil, Nat.zero_add]; exact hk a h
  | i :: is, listed, a, hB, h, hk => by
    simp only [readsB, Bool.and_eq_true, decide_eq_true_eq] at hB
    obtain ⟨⟨⟨⟨h1, h2⟩, h3⟩, h4⟩, h5⟩ := hB
    rw [show (i :: is).length + fuel = (is.length + fuel) + 1 by rw [List.length_cons]; omega]
    rw [List.map_cons] at h
    unfold wpQuiet at h
    split at h
    · rename_i hw
      obtain ⟨v, hv, hn⟩ := h
      exact wpAnyH_take (pick_at h4) hs h2 h1 (fun _ _ _ h => h) (quiet_yields h3 hw hv) hC (wpAnyH_reads hs hC is _ _ h5 hn hk)
    · rename_i hw
      exact wpAnyH_take (pick_at h4) hs h2 h1 (fun _ _ _ h => h) (.inr ⟨by simpa using hw, rfl⟩) hC (wpAnyH_reads hs hC is _ _ h5 h hk)
theorem wpAnyH_grow {l : List Oper} {Q : Exit → Act → World → Prop} (hr : ∀ w, F w w) (ht : ∀ a b c, F a b → F b c → F a c) (hs : Region.noSelect l.toArray = true) (last : List Nat) :
    ∀ (segs : List (List Nat × Nat)) (listed : Array Bool) (a : Act) (w : World), growB md l last segs listed = true →
      wpGrow P l.toArray F (fun a w => Q .normal a w) (last.map (pick l)) (segs.map fun s => (s.1.map (pick l), pick l s.2)) a w →
      wpAnyH P md l.toArray (NoPanic Q) (Futs F w) (growLen last segs) listed a w
  | [], listed, a, w, hB, h => by
    simp only [growB, Bool.and_eq_true, List.isEmpty_iff] at hB
    have := wpAnyH_reads (Q0 := Q) (fuel := 0) hs (Futs.of (hr w)) last listed a hB.1 h (fun a' ha' => ⟨hB.2, ha'⟩)
    exact this
  | (rs, e) :: more, listed, a, w, hB, h => by
    simp only [growB, Bool.and_eq_true, decide_eq_true_eq, beq_iff_eq] at hB
    obtain ⟨⟨⟨h1, h2⟩, h3⟩, h4⟩ := hB
    refine wpAnyH_reads hs (Futs.of (hr w)) rs listed a h1 h (fun a' ha' => ?_)
    refine wpAnyH_all h2 (by simp) (fun i hi => ?_)
    obtain rfl : i = e := by simpa using hi
    have hK : ∀ a'' w', (F w w' ∧ wpGrow P l.toArray F (fun a w => Q .normal a w) (last.map (pick l)) (more.map fun s => (s.1.map (pick l), pick l s.2)) a'' w') →
        Futs F w w' ∧ wpAnyH P md l.toArray (NoPanic Q) (Futs F w) (growLen last more) ((setAll rs listed).setIfInBounds i true) a'' w' := fun a'' w' ⟨hF, hg⟩ =>
      ⟨Futs.of hF, wpAnyH_mono (fun x hx => Futs.of (ht _ _ _ hF (hx.to hr))) _ _ _ _ (wpAnyH_grow hr ht hs last more _ a'' w' h4 hg)⟩
    unfold wpOp
    simp only [pick_at h3]
    unfold wpList at ha'
    split at ha'
    · rename_i hw
      rw [if_pos hw]
      rcases ha' with ha' | ⟨_, ⟨_, _, hx⟩⟩
      · refine .inl (wp_post (Q := pieceEnd _) (fun _ _ _ h => h.elim) (fun ⟨_, _, h⟩ => h.elim) (Oper.wp_mono (fun a'' w' h => hK a'' w' h) ha'))
      · exact hx.elim
    · rename_i hw
      rw [if_neg hw]
      exact hK _ _ ha'
/-- A REGION THAT DRAWS ITS ORDER: one walk, in an order of the prover's. -/
theorem wp_region_grow {l : List Oper} {id : Nat} {Q : Exit → Act → World → Prop} {a : Act} {w : World} (hm : P.follows .mixedOrders = true) (F : World → World → Prop) (hr : ∀ w, F w w) (ht : ∀ a b c, F a b → F b c → F a c)
    (last : List Nat) (segs : List (List Nat × Nat)) (hs : Region.noSelect l.toArray = true) (hn : growLen last segs = l.length) (hB : growB .any l last segs (Array.replicate l.length false) = true)
    (h : wpGrow P l.toArray F (fun a w => Q .normal a w) (last.map (pick l)) (segs.map fun s => (s.1.map (pick l), pick l s.2)) a w.drew) : (Code.region id l.toArray true).wp P Q a w := by
  refine wp_region_noPanic (wp_region_held hm (S := Futs F w.drew) ?_)
  rw [List.size_toArray, ← hn]
  have := wpAnyH_grow (md := .any) (Q := Q) hr ht hs last segs (Array.replicate l.length false) a w.drew hB h
  rw [hn]; rw [hn] at this; exact this
end

section
variable {P : Program} {ops : Array Oper} {F : World → World → Prop} {Q : Act → World → Prop} {last : List Oper}
theorem wpGrow_nil {a : Act} {w : World} (h : wpQuiet P ops (Futs F w) (fun a' => Q a' w) last a) : wpGrow P ops F Q last [] a w := h
theorem wpGrow_cons {rs : List Oper} {e : Oper} {more : List (List Oper × Oper)} {a : Act} {w : World} (h : wpQuiet P ops (Futs F w) (fun a' => wpList P ops (pieceEnd fun a'' w' => F w w' ∧ wpGrow P ops F Q last more a'' w') [e] a' w) rs a) : wpGrow P ops F Q last ((rs, e) :: more) a w := h
end
end Go.Proofs.YtkglgboncngpbaaGreatDoor
/- Bytes, strings and numbers of 8 bytes as the walk spells them: plain facts, no program. -/
namespace Go.Proofs.YtkglgboncngpbaaGreatDoor
open Go.RowKit
/-- A byte, as the integer that the model holds. -/
def w8 (x : UInt8) : Int := (x.toNat : Int)
theorem w8_lt (x : UInt8) : x.toNat < 256 := x.toNat_lt
theorem w8_bd (x : UInt8) : 0 ≤ w8 x ∧ w8 x ≤ 255 := by
  unfold w8; have := w8_lt x; omega
/-- A byte as a cell. -/
def bv (x : UInt8) : Value := .int .u8 (w8 x)
def bytesV (l : List UInt8) : List Value := l.map bv
theorem bytesV_len (l : List UInt8) : (bytesV l).length = l.length := by simp [bytesV]
theorem bytesV_app (l m : List UInt8) : bytesV (l ++ m) = bytesV l ++ bytesV m := by simp [bytesV]
theorem bytesV_one (l : List UInt8) : ∀ u ∈ bytesV l, u.oneCell' = true := by
  intro u hu; simp only [bytesV, List.mem_map] at hu; obtain ⟨x, _, rfl⟩ := hu; rfl
theorem bytesV_get (l : List UInt8) (i : Nat) (h : i < l.length) : (bytesV l)[i]? = some (bv (l.getD i 0)) := by simp [bytesV, h]
theorem bytesV_drop (l : List UInt8) (k : Nat) : (bytesV l).drop k = bytesV (l.drop k) := by simp [bytesV]
theorem bytesV_take (l : List UInt8) (k : Nat) : (bytesV l).take k = bytesV (l.take k) := by simp [bytesV]
/-- A list of bytes as a string. -/
def strOf (l : List UInt8) : ByteArray := ⟨l.toArray⟩
theorem strOf_size (l : List UInt8) : (strOf l).size = l.length := by simp [strOf, ByteArray.size]
theorem strOf_data (s : ByteArray) : strOf s.data.toList = s := rfl
theorem strOf_list (l : List UInt8) : (strOf l).data.toList = l := rfl
theorem strOf_inj {l m : List UInt8} (h : strOf l = strOf m) : l = m := by
  have := congrArg (fun s : ByteArray => s.data.toList) h; exact this
/-- An integer as a cell. -/
def iv (x : Int) : Value := .int .i64 x
def intsV (l : List Int) : List Value := l.map iv
theorem intsV_len (l : List Int) : (intsV l).length = l.length := by simp [intsV]
theorem intsV_app (l m : List Int) : intsV (l ++ m) = intsV l ++ intsV m := by simp [intsV]
theorem intsV_one (l : List Int) : ∀ u ∈ intsV l, u.oneCell' = true := by
  intro u hu; simp only [intsV, List.mem_map] at hu; obtain ⟨x, _, rfl⟩ := hu; rfl
theorem intsV_get (l : List Int) (i : Nat) (h : i < l.length) : (intsV l)[i]? = some (iv (l.getD i 0)) := by simp [intsV, h]
/-- Byte k of a number of 8 bytes in two's complement, the most significant first. -/
def be8At (v : Int) (k : Nat) : UInt8 := UInt8.ofNat (v / 2 ^ (56 - 8 * k) % 256).toNat
def be8To (v : Int) (k : Nat) : List UInt8 := (List.range k).map (be8At v)
def be8 (v : Int) : List UInt8 := be8To v 8
theorem be8To_succ (v : Int) (k : Nat) : be8To v (k + 1) = be8To v k ++ [be8At v k] := by simp [be8To, List.range_succ]
theorem be8To_len (v : Int) (k : Nat) : (be8To v k).length = k := by simp [be8To]
theorem be8_len (v : Int) : (be8 v).length = 8 := be8To_len v 8
theorem be8At_eq (v : Int) (k : Nat) : v / 2 ^ (56 - 8 * k) % 256 = w8 (be8At v k) := by
  unfold be8At w8
  generalize v / 2 ^ (56 - 8 * k) = x
  rw [UInt8.toNat_ofNat']; omega
/-- The number that bytes are, the most significant first. -/
def numB (l : List UInt8) : Nat := l.foldl (fun n x => n * 256 + x.toNat) 0
theorem numB_snoc (l : List UInt8) (x : UInt8) : numB (l ++ [x]) = numB l * 256 + x.toNat := by simp [numB]
theorem numB_nil : numB [] = 0 := rfl
theorem numB_lt : ∀ (k : Nat) (l : List UInt8), l.length = k → numB l < 256 ^ k := by
  intro k
  induction k with
  | zero => intro l h; have : l = [] := List.eq_nil_of_length_eq_zero h; subst this; simp [numB]
  | succ k ih =>
    intro l h
    have hne : l ≠ [] := by intro e; subst e; simp at h
    have hl := List.dropLast_concat_getLast hne
    rw [← hl, numB_snoc, Nat.pow_succ]
    have h1 := ih l.dropLast (by simp [h])
    have h2 := w8_lt (l.getLast hne)
    omega
theorem be8At_nat (v : Int) (k : Nat) : ((be8At v k).toNat : Int) = v / 2 ^ (56 - 8 * k) % 256 := (be8At_eq v k).symm
theorem numB_be8 (v : Int) : (numB (be8 v) : Int) = v % 18446744073709551616 := by
  have h0 := be8At_nat v 0
  have h1 := be8At_nat v 1
  have h2 := be8At_nat v 2
  have h3 := be8At_nat v 3
  have h4 := be8At_nat v 4
  have h5 := be8At_nat v 5
  have h6 := be8At_nat v 6
  have h7 := be8At_nat v 7
  simp only [Nat.reduceMul, Nat.reduceSub, Int.reducePow] at h0 h1 h2 h3 h4 h5 h6 h7
  simp only [be8, be8To, List.range_succ, List.range_zero, List.nil_append, List.map_cons, List.map_nil, List.cons_append, numB, List.foldl_cons, List.foldl_nil]
  omega
/-- The int of 8 bytes. -/
def int8 (l : List UInt8) : Int := wrap64 (numB l)
theorem int8_be8 (v : Int) (h1 : -9223372036854775808 ≤ v) (h2 : v ≤ 9223372036854775807) : int8 (be8 v) = v := by
  unfold int8 wrap64; rw [numB_be8]; omega
theorem int8_bd (l : List UInt8) : -9223372036854775808 ≤ int8 l ∧ int8 l ≤ 9223372036854775807 := by
  unfold int8 wrap64; omega
theorem be8_inj (v w : Int) (h1 : -9223372036854775808 ≤ v) (h2 : v ≤ 9223372036854775807) (h3 : -9223372036854775808 ≤ w) (h4 : w ≤ 9223372036854775807) (h : be8 v = be8 w) : v = w := by
  rw [← int8_be8 v h1 h2, ← int8_be8 w h3 h4, h]
end Go.Proofs.YtkglgboncngpbaaGreatDoor
/- Slices as rows of cells: appended to, made, copied, cut, read as strings. Plain facts over any program. -/
namespace Go.Proofs.YtkglgboncngpbaaGreatDoor
open Go.RowKit
/-- A slice value that reads as the cells cs: n elements of sz cells each; nil and empty slices too. -/
structure Row (w : World) (A : Option Addr) (n c sz : Nat) (cs : List Value) : Prop where
  len : cs.length = n * sz
  cap : n ≤ c
  nil : A = none → n = 0 ∧ c = 0
  some_ : ∀ ad, A = some ad → 0 < c → ∃ b off, ad = ⟨b, off, none⟩ ∧ ∀ i, i < n * sz → w.cell? ⟨b, off + i, none⟩ = cs[i]?
theorem Row.form {w : World} {A : Option Addr} {n c sz : Nat} {cs : List Value} (h : Row w A n c sz cs) (hn : 0 < n) :
    ∃ b off, A = some ⟨b, off, none⟩ ∧ ∀ i, i < n * sz → w.cell? ⟨b, off + i, none⟩ = cs[i]? := by
  rcases hA : A with _ | ad
  · have := (h.nil hA).1; omega
  · obtain ⟨b, off, rfl, hc⟩ := h.some_ ad hA (by have := h.cap; omega)
    exact ⟨b, off, rfl, hc⟩
theorem Row.nilRow (w : World) (sz : Nat) : Row w none 0 0 sz [] := ⟨by simp, Nat.le_refl _, fun _ => ⟨rfl, rfl⟩, fun _ h _ => by cases h⟩
theorem Row.later {w w' : World} {A : Option Addr} {n c sz : Nat} {cs : List Value} (h : Row w A n c sz cs) (hb : Later w w') : Row w' A n c sz cs := by
  refine ⟨h.len, h.cap, h.nil, fun ad hA h0 => ?_⟩
  obtain ⟨b, off, rfl, hc⟩ := h.some_ ad hA h0
  refine ⟨b, off, rfl, fun i hi => ?_⟩
  have h1 := hc i hi
  rw [List.getElem?_eq_getElem (by rw [h.len]; exact hi)] at h1 ⊢
  rw [hb.cell (p := ⟨b, off + i, none⟩) (World.block_lt_of_cell? w _ h1)]; exact h1
/-- A row is as it was where its block is as it was. -/
theorem Row.keep {w w' : World} {A : Option Addr} {n c sz : Nat} {cs : List Value} (h : Row w A n c sz cs) (hk : ∀ ad, A = some ad → 0 < n → ad.block < w.heap.size → w'.heap[ad.block]? = w.heap[ad.block]?) : Row w' A n c sz cs := by
  refine ⟨h.len, h.cap, h.nil, fun ad hA h0 => ?_⟩
  obtain ⟨b, off, rfl, hc⟩ := h.some_ ad hA h0
  refine ⟨b, off, rfl, fun i hi => ?_⟩
  have h1 := hc i hi
  rw [List.getElem?_eq_getElem (by rw [h.len]; exact hi)] at h1 ⊢
  have h2 : b < w.heap.size := World.block_lt_of_cell? w (a := ⟨b, off + i, none⟩) h1
  have hn : 0 < n := by
    rcases Nat.eq_zero_or_pos n with e | e
    · rw [e, Nat.zero_mul] at hi; omega
    · exact e
  rw [World.cell?_of_block (w := w) (a := ⟨b, off + i, none⟩) (hk ⟨b, off, none⟩ hA hn h2)]; exact h1
theorem own_mono {w : World} {B B' : Nat} {e : TypeId} {sz : Nat} {v : Value} {n : Nat} {xs : List Value} (h : w.ownsRow B e sz v n xs) (hb : B' ≤ B) : w.ownsRow B' e sz v n xs :=
  ⟨h.1, h.2.imp id fun ⟨g, cap, cur, h1, h2, h3⟩ => ⟨g, cap, cur, h1, Nat.le_trans hb h2, h3⟩⟩
/-- What the call owns stays owned below blocks that turn. -/
theorem own_below {w w' : World} {B B' : Nat} {e : TypeId} {sz : Nat} {v : Value} {n : Nat} {xs : List Value} (h : w.ownsRow B e sz v n xs) (hb : Below B' w w') (hv : ∀ k, v.ownBlock = some k → k < B') : w'.ownsRow B e sz v n xs := by
  refine ⟨h.1, ?_⟩
  rcases h.2 with hn | ⟨g, cap, cur, rfl, hg, hgg, rest⟩
  · exact .inl hn
  · exact .inr ⟨g, cap, cur, rfl, hg, (hb.block g (hv g rfl)).trans hgg, rest⟩
theorem Row.lt {w : World} {A : Option Addr} {n c sz : Nat} {cs : List Value} (h : Row w A n c sz cs) (hz : 0 < sz) : ∀ ad, A = some ad → 0 < n → ad.block < w.heap.size := fun ad hA h0 => by
  obtain ⟨b, off, hA', hc⟩ := h.form h0
  rw [hA] at hA'; injection hA' with e; subst e
  have h1 := hc 0 (Nat.mul_pos h0 hz)
  rw [List.getElem?_eq_getElem (by rw [h.len]; exact Nat.mul_pos h0 hz)] at h1
  exact World.block_lt_of_cell? w _ h1
/-- A slice value of the call's own lies elsewhere than an address. -/
def Apart (v : Value) (A : Option Addr) : Prop := ∀ ad, A = some ad → v.ownBlock ≠ some ad.block
/-- An address, if it is one, lies in a block that was made between two worlds. -/
def New (w w' : World) (A : Option Addr) : Prop := ∀ ad, A = some ad → w.heap.size ≤ ad.block ∧ ad.block < w'.heap.size
theorem New.from {w0 w w' : World} {A : Option Addr} (h : New w w' A) (hs : w0.heap.size ≤ w.heap.size) : New w0 w' A := fun ad hA => ⟨Nat.le_trans hs (h ad hA).1, (h ad hA).2⟩
theorem Row.drew {w : World} {A : Option Addr} {n c sz : Nat} {cs : List Value} (h : Row w A n c sz cs) : Row w.drew A n c sz cs := h.later (Later.drew w)
theorem Row.below {w w' : World} {A : Option Addr} {n c sz B : Nat} {cs : List Value} (h : Row w A n c sz cs) (hb : Below B w w') (hB : w.heap.size ≤ B) : Row w' A n c sz cs := h.later (Below.mono hb hB)
theorem Row.of_own {w : World} {B : Nat} {e : TypeId} {sz : Nat} {v : Value} {n : Nat} {xs : List Value} (h : w.ownsRow B e sz v n xs) : ∃ A c, v = .slice A n c ∧ Row w A n c sz xs := by
  have hx := h
  rcases h.2 with ⟨rfl, rfl⟩ | ⟨g, cap, cur, rfl, hg, hgg, h1, h2, _⟩
  · have : xs = [] := List.eq_nil_of_length_eq_zero (by simpa using h.1)
    subst this
    exact ⟨none, 0, rfl, Row.nilRow w sz⟩
  · refine ⟨some ⟨g, 0, none⟩, cap, rfl, h.1, h1, fun e => (by cases e), fun ad e _ => ?_⟩
    injection e with e; subst e
    exact ⟨g, 0, rfl, fun i hi => by rw [Nat.zero_add]; exact World.ownsRow.cellAt hx i hi⟩
/-- The cells of a row that lies in a block that is known whole. -/
theorem Row.of_block {w : World} {g : Nat} {cs : Array Value} {t : TypeId} {fr : Nat × Nat} {n sz : Nat} (h : w.heap[g]? = some (.cells cs t fr)) (hn : cs.size = n * sz) : Row w (some ⟨g, 0, none⟩) n n sz cs.toList := by
  refine ⟨by simpa using hn, Nat.le_refl _, fun e => (by cases e), fun ad e _ => ?_⟩
  injection e with e; subst e
  exact ⟨g, 0, rfl, fun i _ => by rw [Nat.zero_add, cell_of_row _ _ _ _ _ _ h]; simp⟩
/-- One element of a row of elements of one cell. -/
theorem Row.cell {w : World} {b off n c : Nat} {cs : List Value} (h : Row w (some ⟨b, off, none⟩) n c 1 cs) (i : Nat) (hi : i < n) : w.cell? ⟨b, off + i, none⟩ = cs[i]? := by
  obtain ⟨b', off', e, hc⟩ := h.some_ _ rfl (by have := h.cap; omega)
  injection e with e1 e2; subst e1 e2
  exact hc i (by omega)
/-- The address of s[k:]. -/
def dropA (A : Option Addr) (c k sz : Nat) : Option Addr := if c = k then A else A.map (·.add (k * sz))
theorem Row.drop {w : World} {A : Option Addr} {n c sz : Nat} {cs : List Value} (h : Row w A n c sz cs) (k : Nat) (hk : k ≤ n) : Row w (dropA A c k sz) (n - k) (c - k) sz (cs.drop (k * sz)) := by
  have hcap := h.cap
  refine ⟨by rw [List.length_drop, h.len, Nat.sub_mul], by omega, fun hA => ?_, fun ad hA h0 => ?_⟩
  · unfold dropA at hA
    split at hA
    · have := h.nil hA; omega
    · rcases hA' : A with _ | a
      · have := h.nil hA'; omega
      · rw [hA'] at hA; cases hA
  · unfold dropA at hA
    split at hA
    · omega
    · rcases hA' : A with _ | a
      · rw [hA'] at hA; cases hA
      · rw [hA'] at hA
        obtain ⟨b, off, rfl, hcell⟩ := h.some_ a hA' (by omega)
        simp only [Option.map_some, Option.some.injEq] at hA
        subst hA
        refine ⟨b, off + k * sz, by rw [Addr.add_lit], fun i hi => ?_⟩
        rw [Nat.sub_mul] at hi
        rw [List.getElem?_drop, Nat.add_assoc]
        exact hcell _ (by omega)
theorem Row.take {w : World} {A : Option Addr} {n c sz : Nat} {cs : List Value} (h : Row w A n c sz cs) (k : Nat) (hk : k ≤ n) : Row w A k c sz (cs.take (k * sz)) := by
  have hcap := h.cap
  have hm : k * sz ≤ n * sz := Nat.mul_le_mul_right _ hk
  refine ⟨by rw [List.length_take, h.len]; omega, by omega, fun hA => ?_, fun ad hA h0 => ?_⟩
  · have := h.nil hA; omega
  · obtain ⟨b, off, rfl, hcell⟩ := h.some_ ad hA h0
    refine ⟨b, off, rfl, fun i hi => ?_⟩
    rw [List.getElem?_take, if_pos hi]; exact hcell i (by omega)
section
variable {P : Program}
theorem Row.src {w : World} {A : Option Addr} {n c sz : Nat} {cs : List Value} (h : Row w A n c sz cs) {t e : TypeId} (ht : P.underlying t = some (.slice e)) (h1 : ∀ u ∈ cs, u.oneCell' = true) : Src P sz t (.slice A n c) n cs w := by
  rcases hA : A with _ | ad
  · obtain ⟨rfl, rfl⟩ := h.nil hA
    have : cs = [] := List.eq_nil_of_length_eq_zero (by simpa using h.len)
    subst this
    exact Src.ofNil w ht 0
  · refine Src.ofSlice w ht _ n c cs h.len (fun j u hu => ?_) h1
    have hj : j < cs.length := by
      rcases Nat.lt_or_ge j cs.length with h1 | h1
      · exact h1
      · rw [List.getElem?_eq_none h1] at hu; cases hu
    have h0 : 0 < c := by
      have h2 := h.len
      rcases Nat.eq_zero_or_pos n with e | e
      · rw [e, Nat.zero_mul] at h2; omega
      · have := h.cap; omega
    obtain ⟨b, off, rfl, hc⟩ := h.some_ ad hA h0
    rw [Addr.add_lit, hc j (by rw [← h.len]; exact hj)]; exact hu
/-- append of whatever source onto a slice of the call's own. -/
theorem run_app (w : World) (base : Nat) (t tx ty e : TypeId) (i : TypeInfo) (z : Value) (size bytes : Nat) (ht : P.underlying t = some (.slice e)) (hi : P.info? e = some i) (hz : i.zero = some z)
    (hsize : i.size = size) (hby : i.bytes = bytes) (hzs : z.cells.size = size)
    (v : Value) (n : Nat) (xs : List Value) (hown : w.ownsRow base e size v n xs) (x : Value) (m : Nat) (news : List Value) (hs : Src P size tx x m news w)
    (h63 : n + m ≤ maxLen) (hbytes : (n + m) * bytes ≤ 140737488355328) (hbase : base ≤ w.heap.size) :
    ∃ v' w', (Builtin.append_ #[t, tx] ty #[v, x]).run P w = .ok v' w' ∧ w'.ownsRow base e size v' (n + m) (xs ++ news) ∧ w.grownBy w' v.ownBlock ∧ (v'.ownBlock = v.ownBlock ∨ v'.ownBlock = some w.heap.size) := by
  subst hsize
  subst hby
  have hsmall : n + m ≤ 9223372036854775807 := by simp only [maxLen] at h63; omega
  have hl := hs.newsLen
  have hlen : (xs ++ news).length = (n + m) * i.size := by rw [List.length_append, hown.1, hl, Nat.add_mul]
  have grown : ∀ (old : Nat), old < n + m → ∀ (row : Option Nat),
      (w.drew.alloc (.cells ((xs ++ news).toArray ++ Builtin.zeroCells z.cells (grownCap w (n + m) old e - (n + m))) e)).ownsRow base e i.size
        (.slice (some ⟨w.heap.size, 0, none⟩) (n + m) (grownCap w (n + m) old e)) (n + m) (xs ++ news) ∧
      w.grownBy (w.drew.alloc (.cells ((xs ++ news).toArray ++ Builtin.zeroCells z.cells (grownCap w (n + m) old e - (n + m))) e)) row := by
    intro old ho row
    have hge := grownCap_ge w (n + m) old e
    have hcm : grownCap w (n + m) old e ≤ maxLen := grownCap_le_maxLen w (n + m) old e h63
    refine ⟨⟨hlen, .inr ⟨w.heap.size, _, _, rfl, hbase, heap_alloc_new w.drew _, hge, hcm, ?_, ?_⟩⟩, ⟨rfl, rfl, rfl, by simp, fun k hk _ => Below.heap_alloc w.drew _ k hk⟩⟩
    · simp only [Array.size_append, List.size_toArray, size_zeroCells, hzs, hlen, ← Nat.add_mul]
      congr 1
      omega
    · simp only [Array.toList_append]
      rw [← hlen]
      exact List.take_left
  rcases hown.2 with ⟨rfl, rfl⟩ | ⟨g, cap, cur, rfl, hbg, hg, hnc, hcm, hcs, htake⟩
  · have hx : xs = [] := List.eq_nil_of_length_eq_zero (by simpa using hown.1)
    subst hx
    by_cases hm : m = 0
    · subst hm
      have hn : news = [] := List.eq_nil_of_length_eq_zero (by simpa using hl)
      subst hn
      refine ⟨.slice none 0 0, w, ?_, World.ownsRow_nil w base e i.size, ⟨rfl, rfl, rfl, Nat.le_refl _, fun _ _ _ => rfl⟩, .inl rfl⟩
      have hc := hs.cells
      rcases hs.kind with ⟨e', hk⟩ | hk <;>
        simp [Builtin.append_, run_underlying ht, run_underlying hk, sizeOf, typeInfo, hi, hs.len, hc]
    · have hr := run_append_grow_src (P := P) w t tx ty e i z ht hi hz none 0 0 [] (by simp [Builtin.firstCells]) x m news hs (by omega) (by omega) (growslice_fits (need := 0 + m) (old := 0) (bytes := i.bytes) (by omega) hbytes)
      have hgr := grown 0 (by omega) (Value.ownBlock (.slice none 0 0))
      simp only [Nat.zero_add, List.nil_append] at hgr hr ⊢
      exact ⟨_, _, hr, hgr.1, hgr.2, .inr rfl⟩
  · by_cases hroom : n + m ≤ cap
    · have hfit : n * i.size + news.length ≤ cur.size := by rw [hl, hcs, ← Nat.add_mul]; exact Nat.mul_le_mul_right _ hroom
      have hst := run_storeCells_at P g (n * i.size) e news 0 cur w hg (by simpa using hfit) hs.one
      refine ⟨.slice (some ⟨g, 0, none⟩) (n + m) cap, w.setRow g (cur.toList.take (n * i.size) ++ news ++ cur.toList.drop (n * i.size + news.length)).toArray, ?_, ⟨hlen, .inr ⟨g, cap, _, rfl, hbg, setRow_heap w g cur _ e _ hg, hroom, hcm, ?_, ?_⟩⟩, ⟨rfl, rfl, rfl, by simp, fun k _ hk => setRow_other w g k _ (fun e => hk (by simp [Value.ownBlock, e]))⟩, .inl rfl⟩
      · simp only [Nat.add_zero] at hst
        rcases hs.kind with ⟨e', hk⟩ | hk <;> simp [Builtin.append_, run_underlying ht, run_underlying hk, sizeOf, typeInfo, hi, hs.len, hroom, hs.cells, Addr.add_lit, hst]
      · simp only [List.size_toArray, List.length_append, List.length_take, List.length_drop, Array.length_toList]
        omega
      · rw [htake, ← hlen]
        exact List.take_left
    · have holds : ∀ j u, xs[j]? = some u → w.cell? ((⟨g, 0, none⟩ : Addr).add j) = some u := hown.cells (g := g) rfl
      have hold := run_firstCells_some (P := P) w.drew i.size n ⟨g, 0, none⟩ n cap xs hown.1 (by simpa using holds)
      have hr := run_append_grow_src (P := P) w t tx ty e i z ht hi hz (some ⟨g, 0, none⟩) n cap xs hold x m news hs (by omega) (by omega) (growslice_fits (by omega) hbytes)
      have hgr := grown cap (by omega) (Value.ownBlock (.slice (some ⟨g, 0, none⟩) n cap))
      exact ⟨_, _, hr, hgr.1, hgr.2, .inr rfl⟩

variable {ops : Array Oper} {rest : List Oper} {o : Oper} {a : Act} {Q : Exit → Act → World → Prop}
/-- append of whatever source onto a slice of the call's own, in a walk. -/
theorem wpList_app (w : World) (hgd : o.guard = none) (s x : Operand) (t tx e : TypeId) (ho : o.op = .call { callee := .builtin .append, args := #[s, x], argTypes := #[t, tx] })
    (base : Nat) (ht : P.underlying t = some (.slice e)) {z : Value} {size bytes : Nat} (hi : (P.info? e).map (fun i => (i.zero, i.size, i.bytes)) = some (some z, size, bytes)) (hzs : z.cells.size = size)
    (v : Value) (n : Nat) (xs : List Value) (hown : w.ownsRow base e size v n xs) (hs : a.eval s = v) (X : Value) (m : Nat) (news : List Value) (hsrc : Src P size tx X m news w) (hx : a.eval x = X)
    (h63 : n + m ≤ maxLen) (hbytes : (n + m) * bytes ≤ 140737488355328) (hbase : base ≤ w.heap.size)
    (h : ∀ v' w', w'.ownsRow base e size v' (n + m) (xs ++ news) → Below base w w' → wpList P ops Q rest (a.put o.dst v') w') : wpList P ops Q (o :: rest) a w := by
  obtain ⟨i0, hi0, hz0, hz1, hz2⟩ := info_parts hi
  obtain ⟨v', w', hr, h2, h3, _⟩ := run_app w base t tx o.type e i0 z size bytes ht hi0 hz0 hz1 hz2 hzs v n xs hown X m news hsrc h63 hbytes hbase
  refine wpList_plain hgd fun K hK => ?_
  unfold Oper.wp execOp
  simp only [ho, resolve, invoke, builtin, Sem.run_bind, Sem.run_pure, Result.andThen_ok, List.map_toArray, List.map_cons, List.map_nil, hs, hx, hr]
  exact hK _ _ (h v' w' h2 ((Below.refl base w).grown h3 hbase (fun k hk => (World.ownsRow.lt hown k hk).1)))
/-- An operation that is wanted. -/
theorem wpList_want {w : World} (hw : Region.wanted o (yielded ops a.tmps) = true) (h : ∀ K : Act → World → Prop, (∀ a w, wpList P ops Q rest a w → K a w) → o.wp P a w K Q) : wpList P ops Q (o :: rest) a w := by
  unfold wpList; rw [if_pos hw]; exact .inl (h _ (fun _ _ h => h))
/-- The same where the operation is guarded. -/
theorem wpList_appG (w : World) (hw : Region.wanted o (yielded ops a.tmps) = true) (s x : Operand) (t tx e : TypeId) (ho : o.op = .call { callee := .builtin .append, args := #[s, x], argTypes := #[t, tx] })
    (base : Nat) (ht : P.underlying t = some (.slice e)) {z : Value} {size bytes : Nat} (hi : (P.info? e).map (fun i => (i.zero, i.size, i.bytes)) = some (some z, size, bytes)) (hzs : z.cells.size = size)
    (v : Value) (n : Nat) (xs : List Value) (hown : w.ownsRow base e size v n xs) (hs : a.eval s = v) (X : Value) (m : Nat) (news : List Value) (hsrc : Src P size tx X m news w) (hx : a.eval x = X)
    (h63 : n + m ≤ maxLen) (hbytes : (n + m) * bytes ≤ 140737488355328) (hbase : base ≤ w.heap.size)
    (h : ∀ v' w', w'.ownsRow base e size v' (n + m) (xs ++ news) → Below base w w' → wpList P ops Q rest (a.put o.dst v') w') : wpList P ops Q (o :: rest) a w := by
  obtain ⟨i0, hi0, hz0, hz1, hz2⟩ := info_parts hi
  obtain ⟨v', w', hr, h2, h3, _⟩ := run_app w base t tx o.type e i0 z size bytes ht hi0 hz0 hz1 hz2 hzs v n xs hown X m news hsrc h63 hbytes hbase
  refine wpList_want hw fun K hK => ?_
  unfold Oper.wp execOp
  simp only [ho, resolve, invoke, builtin, Sem.run_bind, Sem.run_pure, Result.andThen_ok, List.map_toArray, List.map_cons, List.map_nil, hs, hx, hr]
  exact hK _ _ (h v' w' h2 ((Below.refl base w).grown h3 hbase (fun k hk => (World.ownsRow.lt hown k hk).1)))
/-- append of cells that a new block holds. -/
theorem wpList_app_new (wr : World) (hgd : o.guard = none) (s x : Operand) (t e : TypeId) (ho : o.op = .call { callee := .builtin .append, args := #[s, x], argTypes := #[t, t] })
    (base : Nat) (ht : P.underlying t = some (.slice e)) {z : Value} {size bytes : Nat} (hi : (P.info? e).map (fun i => (i.zero, i.size, i.bytes)) = some (some z, size, bytes)) (hzs : z.cells.size = size)
    (v : Value) (n : Nat) (xs : List Value) (hown : wr.ownsRow base e size v n xs) (hs : a.eval s = v) (m : Nat) (cs : Array Value) (hm : cs.size = m * size) (h1 : ∀ u ∈ cs.toList, u.oneCell' = true)
    (hx : a.eval x = .slice (some ⟨wr.heap.size, 0, none⟩) m m) {w0 : World} {fr : Nat × Nat} (hw0 : w0 = wr.alloc (.cells cs e fr))
    (h63 : n + m ≤ maxLen) (hbytes : (n + m) * bytes ≤ 140737488355328) (hbase : base ≤ wr.heap.size)
    (h : ∀ v' w', w'.ownsRow base e size v' (n + m) (xs ++ cs.toList) → Below base wr w' → wpList P ops Q rest (a.put o.dst v') w') : wpList P ops Q (o :: rest) a w0 := by
  subst hw0
  refine wpList_app _ hgd s x t t e ho base ht hi hzs v n xs (World.ownsRow.alloc hown _) hs _ m cs.toList ((Row.of_block (heap_alloc_new _ _) hm).src ht h1) hx h63 hbytes (by simp; omega) fun v' w' h2 h3 => ?_
  exact h v' w' h2 (((Below.refl base wr).alloc hbase _).trans h3)
/-- The same, and what it leaves alone: all old blocks but the slice's own; and where the new slice lies. -/
theorem wpList_app_newK (wr : World) (hgd : o.guard = none) (s x : Operand) (t e : TypeId) (ho : o.op = .call { callee := .builtin .append, args := #[s, x], argTypes := #[t, t] })
    (base : Nat) (ht : P.underlying t = some (.slice e)) {z : Value} {size bytes : Nat} (hi : (P.info? e).map (fun i => (i.zero, i.size, i.bytes)) = some (some z, size, bytes)) (hzs : z.cells.size = size)
    (v : Value) (n : Nat) (xs : List Value) (hown : wr.ownsRow base e size v n xs) (hs : a.eval s = v) (m : Nat) (cs : Array Value) (hm : cs.size = m * size) (h1 : ∀ u ∈ cs.toList, u.oneCell' = true)
    (hx : a.eval x = .slice (some ⟨wr.heap.size, 0, none⟩) m m) {w0 : World} {fr : Nat × Nat} (hw0 : w0 = wr.alloc (.cells cs e fr))
    (h63 : n + m ≤ maxLen) (hbytes : (n + m) * bytes ≤ 140737488355328) (hbase : base ≤ wr.heap.size)
    (h : ∀ v' w', w'.ownsRow base e size v' (n + m) (xs ++ cs.toList) → Below base wr w' → (∀ k, k < wr.heap.size → v.ownBlock ≠ some k → w'.heap[k]? = wr.heap[k]?) → (v'.ownBlock = v.ownBlock ∨ ∃ k, wr.heap.size ≤ k ∧ v'.ownBlock = some k) → wpList P ops Q rest (a.put o.dst v') w') :
    wpList P ops Q (o :: rest) a w0 := by
  subst hw0
  obtain ⟨i0, hi0, hz0, hz1, hz2⟩ := info_parts hi
  obtain ⟨v', w', hr, h2, h3, h4⟩ := run_app (wr.alloc (.cells cs e fr)) base t t o.type e i0 z size bytes ht hi0 hz0 hz1 hz2 hzs v n xs (World.ownsRow.alloc hown _) _ m cs.toList ((Row.of_block (heap_alloc_new _ _) hm).src ht h1) h63 hbytes (by simp; omega)
  refine wpList_plain hgd fun K hK => ?_
  unfold Oper.wp execOp
  simp only [ho, resolve, invoke, builtin, Sem.run_bind, Sem.run_pure, Result.andThen_ok, List.map_toArray, List.map_cons, List.map_nil, hs, hx, hr]
  refine hK _ _ (h v' w' h2 ((((Below.refl base wr).alloc hbase _)).grown h3 (by simp; omega) (fun k hk => (World.ownsRow.lt hown k hk).1)) (fun k hk hne => ?_) (h4.imp id (fun e => ⟨_, by simp, e⟩)))
  rw [h3.block k (by simp; omega) (fun e => hne e.symm), Below.heap_alloc _ _ _ hk]
/-- make of n elements with room for c, elements of one cell. -/
theorem wpList_make (w : World) (hgd : o.guard = none) (l c : Operand) (t e : TypeId) (ho : o.op = Op.makeSlice t l c)
    (base : Nat) (ht : P.underlying t = some (.slice e)) {z : Value} {bytes : Nat} (hi : (P.info? e).map (fun i => (i.zero, i.size, i.bytes)) = some (some z, 1, bytes)) (hzs : z.cells = #[z])
    (n k : Nat) {kl kc : IntKind} {L C : Int} (hl : a.eval l = .int kl L) (hc : a.eval c = .int kc C) (hL : L = (n : Int)) (hC : C = (k : Int)) (hnk : n ≤ k) (hb : k * bytes ≤ 140737488355328) (h63 : k ≤ maxLen) (hbase : base ≤ w.heap.size)
    (h : ∀ w', w'.ownsRow base e 1 (.slice (some ⟨w.heap.size, 0, none⟩) n k) n (List.replicate n z) → Below w.heap.size w w' → wpList P ops Q rest (a.put o.dst (.slice (some ⟨w.heap.size, 0, none⟩) n k)) w') : wpList P ops Q (o :: rest) a w := by
  obtain ⟨i0, hi0, hz0, hz1, hz2⟩ := info_parts hi
  subst hL hC
  have h63' : (k : Int) ≤ 9223372036854775807 := by have := h63; unfold maxLen at this; omega
  have hb' : (i0.bytes : Int) * (k : Int) ≤ 281474976710656 := by
    have h : ((i0.bytes * k : Nat) : Int) ≤ 281474976710656 := by rw [hz2, Nat.mul_comm]; omega
    rwa [Int.natCast_mul] at h
  have hr := run_make (P := P) w t e i0 z ht hi0 hz0 kl kc n k (by omega) (by omega) hb' h63'
  simp only [Int.toNat_natCast, hz1, hzs, Nat.mul_one] at hr
  refine wpList_plain hgd fun K hK => ?_
  unfold Oper.wp
  simp [execOp, ho, hl, hc, hr, Result.andThen]
  refine hK _ _ (h _ ⟨by simp, .inr ⟨w.heap.size, k, _, rfl, hbase, heap_alloc_new _ _, hnk, h63, by rw [size_madeCells, Nat.mul_one], ?_⟩⟩ ((Below.refl _ _).alloc (Nat.le_refl _) _))
  rw [toList_madeCells_one, Nat.mul_one, List.take_replicate, Nat.min_eq_left hnk]
/-- copy of as many elements as the slice of the call's own has, elements of one cell. -/
theorem wpList_copy_all (w : World) (hgd : o.guard = none) (d s : Operand) (t tx e ex : TypeId) (ho : o.op = .call { callee := .builtin .copy, args := #[d, s], argTypes := #[t, tx] })
    (base : Nat) (ht : P.underlying t = some (.slice e)) (htx : P.underlying tx = some (.slice ex)) (hsz : (P.info? e).map (·.size) = some 1)
    (g n k : Nat) (xs : List Value) (hown : w.ownsRow base e 1 (.slice (some ⟨g, 0, none⟩) n k) n xs) (hd : a.eval d = .slice (some ⟨g, 0, none⟩) n k)
    (A : Option Addr) (c : Nat) (cs : List Value) (hrow : Row w A n c 1 cs) (h1 : ∀ u ∈ cs, u.oneCell' = true) (hs : a.eval s = .slice A n c)
    (h : ∀ w', w'.ownsRow base e 1 (.slice (some ⟨g, 0, none⟩) n k) n cs → Below base w w' → wpList P ops Q rest (a.put o.dst (goInt n)) w') : wpList P ops Q (o :: rest) a w := by
  have hown' := hown
  rcases hown.2 with ⟨h', _⟩ | ⟨g', cap, cur, h', hbg, hg, hnc, hcm, hcs, htake⟩
  · cases h'
  simp only [Value.slice.injEq, Option.some.injEq, Addr.mk.injEq, and_true, true_and] at h'
  obtain ⟨rfl, rfl⟩ := h'
  have hcl : cs.length = n := by simpa using hrow.len
  have hsrc := hrow.src htx h1
  obtain ⟨i0, hi0, hi1⟩ : ∃ i0, P.info? e = some i0 ∧ i0.size = 1 := by
    cases hq : P.info? e with
    | none => rw [hq] at hsz; cases hsz
    | some i => rw [hq] at hsz; exact ⟨i, rfl, by simpa using hsz⟩
  have hst := run_storeCells_at P g 0 e cs 0 cur w hg (by rw [hcl, hcs]; omega) h1
  simp only [Nat.zero_add, List.take_zero, List.nil_append] at hst
  have hr : (Builtin.copy_ #[t, tx] o.type #[.slice (some ⟨g, 0, none⟩) n k, .slice A n c]).run P w = .ok (goInt n) (w.setRow g (cs ++ cur.toList.drop cs.length).toArray) := by
    have hc := hsrc.cells
    have hl := hsrc.len
    simp [Builtin.copy_, run_underlying ht, sizeOf, typeInfo, hi0, hi1, hl, hc, hst]
  refine wpList_plain hgd fun K hK => ?_
  unfold Oper.wp execOp
  simp only [ho, resolve, invoke, builtin, Sem.run_bind, Sem.run_pure, Result.andThen_ok, List.map_toArray, List.map_cons, List.map_nil, hs, hd, hr]
  refine hK _ _ (h _ ⟨by simp [hcl], .inr ⟨g, k, _, rfl, hbg, setRow_heap w g cur _ e _ hg, hnc, hcm, ?_, ?_⟩⟩ ((Below.refl base w).trans ⟨rfl, rfl, rfl, by simp [World.setRow], fun j hj => setRow_other w g j _ (by omega)⟩))
  · simp only [List.size_toArray, List.length_append, List.length_drop, Array.length_toList]; omega
  · rw [Nat.mul_one, ← hcl]; exact List.take_left
/-- 's[k:]', spelled under one name. -/
theorem run_slice_from {t e : TypeId} (ht : P.underlying t = some (.slice e)) {sz : Nat} (hz : (P.info? e).map (·.size) = some sz) {A : Option Addr} {n c k : Nat} {i : Int} (hi : i = (k : Int)) (hk : k ≤ n) (kk : IntKind) (w : World) :
    (Instr.slice t (.slice A n c) (some (.int kk i)) none none).run P w = .ok (.slice (dropA A c k sz) (n - k) (c - k)) w := by
  subst hi
  have h1 : (0 : Int) ≤ (k : Int) ∧ (k : Int) ≤ (n : Int) := by omega
  cases hq : P.info? e with
  | none => rw [hq] at hz; cases hz
  | some ie =>
    have hs : ie.size = sz := by rw [hq] at hz; simpa using hz
    unfold dropA
    simp [Instr.slice, run_underlying ht, Instr.sliceBounds, Instr.sliceBound, asIntOf, h1, sizeOf, typeInfo, hq, hs]
    intro h2; omega
/-- 's[:k]'. -/
theorem run_slice_to {t e : TypeId} (ht : P.underlying t = some (.slice e)) {sz : Nat} (hz : (P.info? e).map (·.size) = some sz) {w0 : World} {A : Option Addr} {n c k : Nat} {cs : List Value} (hrow : Row w0 A n c sz cs) {i : Int} (hi : i = (k : Int)) (hk : k ≤ n) (kk : IntKind) (w : World) :
    (Instr.slice t (.slice A n c) none (some (.int kk i)) none).run P w = .ok (.slice A k c) w := by
  subst hi
  cases hq : P.info? e with
  | none => rw [hq] at hz; cases hz
  | some ie =>
    have hkc : k ≤ c := Nat.le_trans hk hrow.cap
    have hA : Option.map (fun x : Addr => x.add 0) A = A := by
      rcases hA : A with _ | ad
      · rfl
      · simp [Addr.add]
    simp [Instr.slice, run_underlying ht, Instr.sliceBounds, Instr.sliceBound, asIntOf, sizeOf, typeInfo, hq, hkc, hA]
/-- 'string(b)'. -/
theorem run_conv_row {w : World} {A : Option Addr} {n c : Nat} {us : List UInt8} (h : Row w A n c 1 (bytesV us)) {src e dst : TypeId} (hs : P.underlying src = some (.slice e)) (he : P.underlying e = some (.int .u8)) (hd : P.underlying dst = some .string) :
    (convert src dst (.slice A n c)).run P w = .ok (.string (strOf us)) w := by
  have hl : us.length = n := by have := h.len; rw [bytesV_len] at this; simpa using this
  rcases hA : A with _ | ad
  · obtain ⟨rfl, rfl⟩ := h.nil hA
    have : us = [] := List.eq_nil_of_length_eq_zero hl
    subst this
    exact run_convert_bytes_nil w src e hs he 0 0 dst hd
  · rcases Nat.eq_zero_or_pos n with h0 | h0
    · subst h0
      have : us = [] := List.eq_nil_of_length_eq_zero hl
      subst this
      simp [convert, run_underlying hs, run_underlying he, run_underlying hd, Conv.bytesToString, loadCells, loadCellsFrom]
      rfl
    obtain ⟨b, off, rfl, hc⟩ := h.some_ ad hA (by have := h.cap; omega)
    have hsz := strOf_size us
    have h := Lib.run_convert_whole (P := P) w src e dst hs he hd b off (strOf us) (fun i hi => by
      have h1 : i < us.length := by omega
      have h2 : (strOf us)[i]'hi = us.getD i 0 := by simp [strOf, ByteArray.getElem_eq_getElem_data, h1]
      have h3 : bv (us.getD i 0) = .int .u8 (((strOf us)[i]'hi).toNat : Int) := by unfold bv w8; exact congrArg (fun x : UInt8 => Value.int .u8 (x.toNat : Int)) h2.symm
      rw [hc i (by omega), bytesV_get _ _ h1]
      exact congrArg some h3) c
    rw [hsz, hl] at h
    exact h
end
end Go.Proofs.YtkglgboncngpbaaGreatDoor
/- What the program says of the types of bytes and numbers. -/
namespace Go.Proofs.YtkglgboncngpbaaGreatDoor
theorem u8_info : (Tryz.prog.info? 5).map (fun i => (i.zero, i.size, i.bytes)) = some (some (.int .u8 0), 1, 1) := by kernel_rfl
theorem i64_info : (Tryz.prog.info? 3).map (fun i => (i.zero, i.size, i.bytes)) = some (some (.int .i64 0), 1, 8) := by kernel_rfl
theorem u8_size : (Tryz.prog.info? 5).map (·.size) = some 1 := by kernel_rfl
theorem i64_size : (Tryz.prog.info? 3).map (·.size) = some 1 := by kernel_rfl
end Go.Proofs.YtkglgboncngpbaaGreatDoor
/- The walks of package wire: what appends. -/
namespace Go.Proofs.YtkglgboncngpbaaGreatDoor
open Go.RowKit
/-- A slice that reads as bytes. -/
def BRow (w : World) (A : Option Addr) (n c : Nat) (us : List UInt8) : Prop := Row w A n c 1 (bytesV us)
/-- A slice that reads as numbers. -/
def IRow (w : World) (A : Option Addr) (n c : Nat) (l : List Int) : Prop := Row w A n c 1 (intsV l)
theorem BRow.len {w : World} {A : Option Addr} {n c : Nat} {us : List UInt8} (h : BRow w A n c us) : us.length = n := by
  have := Row.len h; rw [bytesV_len] at this; simpa using this
theorem IRow.len {w : World} {A : Option Addr} {n c : Nat} {l : List Int} (h : IRow w A n c l) : l.length = n := by
  have := Row.len h; rw [intsV_len] at this; simpa using this
theorem BRow.later {w w' : World} {A : Option Addr} {n c : Nat} {us : List UInt8} (h : BRow w A n c us) (hb : Later w w') : BRow w' A n c us := Row.later h hb
theorem IRow.later {w w' : World} {A : Option Addr} {n c : Nat} {l : List Int} (h : IRow w A n c l) (hb : Later w w') : IRow w' A n c l := Row.later h hb
/-- Bytes in a slice that the call itself has made. -/
def BOwn (w : World) (B : Nat) (v : Value) (us : List UInt8) : Prop := w.ownsRow B 5 1 v us.length (bytesV us)
theorem BOwn.row {w : World} {B : Nat} {v : Value} {us : List UInt8} (h : BOwn w B v us) : ∃ A c, v = .slice A us.length c ∧ BRow w A us.length c us := Row.of_own h
set_option maxHeartbeats 400000 in
theorem withRoom_any (A : Option Addr) (n c : Nat) (us : List UInt8) (more : Nat) (w : World) (hr : BRow w A n c us) (hm : n + more ≤ 1000000000) :
    Calls Tryz.prog 86 #[.slice A n c, .int .i64 more] w fun e w' => ∃ v', e = .returned v' ∧ BOwn w' w.heap.size v' us ∧ Below w.heap.size w w' := by
  have HR := Lib.hid hr; have HL := Lib.hid hr.len; clear hr
  go_enter Tryz.func86, Tryz.ntmps86
  go_wp2_with (first
    | (at_make; refine wpList_make _ rfl (.tmp 7) (.tmp 11) 30 5 rfl w.heap.size Tryz.underlying30 u8_info rfl n (n + more) rfl rfl rfl (by omega) (by omega) (by omega) (by unfold maxLen; omega) (Nat.le_refl _) ?_; intro w1 ho1 hb1; have HO1 := Lib.hid ho1; have HB1 := Lib.hid hb1; have HR1 := Lib.hid (Row.below HR.out hb1 (Nat.le_refl _)); clear ho1 hb1)
    | (refine wpList_copy_all (o := ⟨some 15, _, _, _, _, _⟩) _ rfl (.tmp 13) (.tmp 14) 30 30 5 5 rfl w.heap.size Tryz.underlying30 Tryz.underlying30 u8_size w.heap.size n (n + more) _ HO1.out rfl A c _ HR1.out (bytesV_one us) rfl ?_; intro w2 ho2 hb2; have HO2 := Lib.hid ho2; have HB2 := Lib.hid hb2; clear ho2 hb2))
  go_ret
  exact ⟨_, rfl, by unfold BOwn; rw [HL.out]; exact HO2.out, HB1.out.trans HB2.out⟩
set_option maxHeartbeats 400000 in
theorem appendNumber_any (B : Nat) (v : Value) (us : List UInt8) (x : Int) (w : World) (hown : BOwn w B v us) (hB : B ≤ w.heap.size) (hl : us.length ≤ 900000000) :
    Calls Tryz.prog 85 #[v, .int .i64 x] w fun e w' => ∃ v', e = .returned v' ∧ BOwn w' B v' (us ++ be8 x) ∧ Below B w w' := by
  have HOWN := Lib.hid hown; clear hown
  go_enter Tryz.func85, Tryz.ntmps85
  go_wp2
  go_loopw [0, 5] (fun v i wr => ∃ k : Nat, k ≤ 8 ∧ i = .int .i64 (56 - 8 * (k : Int)) ∧ Hid (BOwn wr B v (us ++ be8To x k) ∧ Below B w wr)) (fun _ i _ => (intOf i + 8).toNat)
  case atStart => exact ⟨0, by omega, by go_num, by simpa [be8To] using HOWN.out, Below.refl _ _⟩
  case round =>
    obtain ⟨k, hk, rfl, HI⟩ := hrel
    have hlen : (us ++ be8To x k).length + 1 ≤ 1000000000 := by rw [List.length_append, be8To_len]; omega
    have HLEN := Lib.hid hlen; clear hlen
    by_cases hlt : k < 8
    · have hsh := be8At_eq x k
      have h0 : (0 : Int) ≤ 56 - 8 * (k : Int) := by omega
      have hBr : B ≤ wr.heap.size := by have := HI.out.2.size; omega
      go_wp2_with (at_builtin; go_must (refine wpList_app_new wr rfl (.tmp 10) (.tmp 15) 30 5 rfl B Tryz.underlying30 u8_info rfl _ _ _ HI.out.1 rfl 1 #[.int .u8 (w8 (be8At x k))] rfl (by simp [Value.oneCell']) rfl rfl (by have := HLEN.out; unfold maxLen; omega) (by have := HLEN.out; omega) hBr ?_); intro v' w' hown' hb')
      exact ⟨⟨k + 1, by omega, by go_num, by rw [be8To_succ, ← List.append_assoc]; exact ⟨by unfold BOwn; rw [bytesV_app, List.length_append]; exact hown', HI.out.2.trans hb'⟩⟩, by simp [intOf]; omega⟩
    · go_wp2
      go_ret
      have hk8 : k = 8 := by omega
      subst hk8
      exact ⟨_, rfl, HI.out⟩
end Go.Proofs.YtkglgboncngpbaaGreatDoor
/- Statements and pins as values of the program: plain facts. -/
namespace Go.Proofs.YtkglgboncngpbaaGreatDoor
open Go.RowKit
/-- A pin; a statement. -/
structure PinD where
  author : Int
  height : Int
  digest : ByteArray
structure Stm where
  author : Int
  number : Int
  prev : ByteArray
  time : Int
  kind : Int
  a : Int
  b : Int
  c : Int
  list : List Int
  pins : List PinD
  body : ByteArray
  key : Int
  dig : ByteArray
def pinC (p : PinD) : List Value := [.int .i64 p.author, .int .i64 p.height, .string p.digest]
def pinV (p : PinD) : Value := .agg #[.int .i64 p.author, .int .i64 p.height, .string p.digest]
def pinsC (l : List PinD) : List Value := l.flatMap pinC
theorem pinsC_len (l : List PinD) : (pinsC l).length = l.length * 3 := by
  induction l with
  | nil => rfl
  | cons p l ih => simp only [pinsC, List.flatMap_cons, List.length_append, List.length_cons] at ih ⊢; simp only [pinC, List.length_cons, List.length_nil]; omega
theorem pinsC_app (l m : List PinD) : pinsC (l ++ m) = pinsC l ++ pinsC m := by simp [pinsC]
theorem pinsC_one (l : List PinD) : ∀ u ∈ pinsC l, u.oneCell' = true := by
  intro u hu
  simp only [pinsC, List.mem_flatMap, pinC, List.mem_cons, List.not_mem_nil, or_false] at hu
  obtain ⟨p, _, rfl | rfl | rfl⟩ := hu <;> rfl
def noPin : PinD := ⟨0, 0, ⟨#[]⟩⟩
theorem pinsC_drop (l : List PinD) (k : Nat) : (pinsC l).drop (k * 3) = pinsC (l.drop k) := by
  induction l generalizing k with
  | nil => simp [pinsC]
  | cons p l ih =>
    cases k with
    | zero => simp
    | succ k =>
      rw [List.drop_succ_cons, ← ih k]
      simp only [pinsC, List.flatMap_cons, pinC]
      rw [show (k + 1) * 3 = k * 3 + 3 by omega]
      rfl
theorem pinsC_get (l : List PinD) (k : Nat) (h : k < l.length) :
    (pinsC l)[k * 3]? = some (.int .i64 (l.getD k noPin).author) ∧ (pinsC l)[k * 3 + 1]? = some (.int .i64 (l.getD k noPin).height) ∧ (pinsC l)[k * 3 + 2]? = some (.string (l.getD k noPin).digest) := by
  have h0 : ∀ j, (pinsC l)[k * 3 + j]? = (pinsC (l.drop k))[j]? := fun j => by rw [← pinsC_drop, List.getElem?_drop]
  have h1 : l.drop k = l.getD k noPin :: l.drop (k + 1) := by
    rw [List.drop_eq_getElem_cons h]; simp [h]
  have h2 := h0 0; have h3 := h0 1; have h4 := h0 2
  rw [h1] at h2 h3 h4
  exact ⟨h2, h3, h4⟩
/-- A slice that reads as pins. -/
def PRow (w : World) (A : Option Addr) (n c : Nat) (l : List PinD) : Prop := Row w A n c 3 (pinsC l)
theorem PRow.len {w : World} {A : Option Addr} {n c : Nat} {l : List PinD} (h : PRow w A n c l) : l.length = n := by
  have := Row.len h; rw [pinsC_len] at this; omega
theorem PRow.later {w w' : World} {A : Option Addr} {n c : Nat} {l : List PinD} (h : PRow w A n c l) (hb : Later w w') : PRow w' A n c l := Row.later h hb
/-- The cells of pin k. -/
theorem PRow.cells {w : World} {A : Option Addr} {n c : Nat} {l : List PinD} (h : PRow w A n c l) (k : Nat) (hk : k < n) :
    ∃ b off, A = some ⟨b, off, none⟩ ∧ w.cell? ⟨b, off + k * 3, none⟩ = some (.int .i64 (l.getD k noPin).author) ∧ w.cell? ⟨b, off + k * 3 + 1, none⟩ = some (.int .i64 (l.getD k noPin).height) ∧ w.cell? ⟨b, off + k * 3 + 2, none⟩ = some (.string (l.getD k noPin).digest) := by
  obtain ⟨b, off, hA, hc⟩ := Row.form h (by omega)
  have hl := h.len
  obtain ⟨h1, h2, h3⟩ := pinsC_get l k (by omega)
  exact ⟨b, off, hA, by rw [hc _ (by omega), h1], by rw [Nat.add_assoc, hc _ (by omega), h2], by rw [Nat.add_assoc, hc _ (by omega), h3]⟩
/-- A statement as a value: its lists lie where the slices say. -/
def stmV (s : Stm) (A : Option Addr) (n c : Nat) (B : Option Addr) (m k : Nat) : Value :=
  .agg #[.int .i64 s.author, .int .i64 s.number, .string s.prev, .int .i64 s.time, .int .i64 s.kind, .int .i64 s.a, .int .i64 s.b, .int .i64 s.c, .slice A n c, .slice B m k, .string s.body, .int .i64 s.key, .string s.dig]
/-- A value reads as a statement. -/
def StmAt (w : World) (v : Value) (s : Stm) : Prop := ∃ A n c B m k, v = stmV s A n c B m k ∧ IRow w A n c s.list ∧ PRow w B m k s.pins
theorem StmAt.later {w w' : World} {v : Value} {s : Stm} (h : StmAt w v s) (hb : Later w w') : StmAt w' v s := by
  obtain ⟨A, n, c, B, m, k, e, h1, h2⟩ := h
  exact ⟨A, n, c, B, m, k, e, h1.later hb, h2.later hb⟩
end Go.Proofs.YtkglgboncngpbaaGreatDoor
/- The walks of package statement: Check and what it calls. -/
namespace Go.Proofs.YtkglgboncngpbaaGreatDoor
open Go.RowKit
/-- lo ≤ v ≤ hi. -/
def btw (v lo hi : Int) : Bool := decide (lo ≤ v) && decide (v ≤ hi)
/-- A function that only reads, and answers v. -/
def Says (v : Value) (w : World) (e : Ending) (w' : World) : Prop := e = .returned v ∧ w = w'
theorem between_any (v lo hi : Int) (w : World) : Calls Tryz.prog 79 #[.int .i64 v, .int .i64 lo, .int .i64 hi] w (Says (.bool (btw v lo hi)) w) := by
  cases h1 : decide (lo ≤ v) <;> cases h2 : decide (v ≤ hi)
  all_goals
    go_enter Tryz.func79, Tryz.ntmps79
    go_wp2
    go_ret
    exact ⟨by simp [btw, h1, h2], rfl⟩
def isKeyB (v : Int) : Bool := btw v 0 63
def isValueB (v : Int) : Bool := btw v 0 1099511627776
def isTrustB (v : Int) : Bool := btw v 1 3
def isKindB (v : Int) : Bool := isTrustB v || btw v 10 31
theorem isKey_any (v : Int) (w : World) : Calls Tryz.prog 77 #[.int .i64 v] w (Says (.bool (isKeyB v)) w) := by
  go_enter Tryz.func77, Tryz.ntmps77
  go_wp2_with fail
  refine (between_any _ _ _ _).mono ?_
  rintro e w1 ⟨rfl, rfl⟩
  go_wp2
  go_ret
  exact ⟨rfl, rfl⟩
theorem isValue_any (v : Int) (w : World) : Calls Tryz.prog 104 #[.int .i64 v] w (Says (.bool (isValueB v)) w) := by
  go_enter Tryz.func104, Tryz.ntmps104
  go_wp2_with fail
  refine (between_any _ _ _ _).mono ?_
  rintro e w1 ⟨rfl, rfl⟩
  go_wp2
  go_ret
  exact ⟨rfl, rfl⟩
theorem isTrust_any (v : Int) (w : World) : Calls Tryz.prog 103 #[.int .i64 v] w (Says (.bool (isTrustB v)) w) := by
  go_enter Tryz.func103, Tryz.ntmps103
  go_wp2_with fail
  refine (between_any _ _ _ _).mono ?_
  rintro e w1 ⟨rfl, rfl⟩
  go_wp2
  go_ret
  exact ⟨rfl, rfl⟩
theorem isKind_any (v : Int) (w : World) : Calls Tryz.prog 78 #[.int .i64 v] w (Says (.bool (isKindB v)) w) := by
  go_enter Tryz.func78, Tryz.ntmps78
  go_wp2_with fail
  refine (isTrust_any _ _).mono ?_
  rintro e w1 ⟨rfl, rfl⟩
  cases h : isTrustB v
  · go_wp2_with fail
    refine (between_any _ _ _ _).mono ?_
    rintro e w1 ⟨rfl, rfl⟩
    go_wp2
    go_ret
    exact ⟨by rw [isKindB, h]; rfl, rfl⟩
  · go_wp2
    go_ret
    exact ⟨by rw [isKindB, h]; rfl, rfl⟩
/-- What its kind asks of A, B and C. -/
def fitsB (s : Stm) : Bool :=
  if s.kind = 1 then isKeyB s.a && (s.a != s.author) && btw s.b 1 3 && btw s.c s.time 2147483648
  else if s.kind = 2 then btw s.a 0 199 && (s.b == 0) && (s.c == 0)
  else if s.kind = 3 then (s.a == 0) && (s.b == 0) && (s.c == 0) else true
/-- A function that makes memory of its own, and answers v. -/
def SaysL (v : Value) (w : World) (e : Ending) (w' : World) : Prop := e = .returned v ∧ Below w.heap.size w w'
theorem one_new (w : World) (o : Obj) : Below w.heap.size w (w.alloc o) := (Below.refl _ _).alloc (Nat.le_refl _) _
set_option maxHeartbeats 1000000 in
theorem fitsKind_any (s : Stm) (A : Option Addr) (n c : Nat) (B : Option Addr) (m k : Nat) (w : World) : Calls Tryz.prog 105 #[stmV s A n c B m k] w (SaysL (.bool (fitsB s)) w) := by
  obtain ⟨author, number, prev, time, kind, a, b, cc, list, pins, body, key, dig⟩ := s
  unfold stmV
  go_enter Tryz.func105, Tryz.ntmps105
  by_cases h1 : kind = 1
  · subst h1
    go_wp2_with fail
    refine (isKey_any _ _).mono ?_
    rintro e w1 ⟨rfl, rfl⟩
    cases g1 : isKeyB a
    · go_wp2
      go_ret
      exact ⟨by simp [fitsB, g1], one_new _ _⟩
    cases g2 : (a != author)
    · go_wp2
      go_ret
      exact ⟨by simp [fitsB, g2], one_new _ _⟩
    go_wp2_with fail
    refine (between_any _ _ _ _).mono ?_
    rintro e w1 ⟨rfl, rfl⟩
    cases g3 : btw b 1 3
    · go_wp2
      go_ret
      exact ⟨by simp [fitsB, g3], one_new _ _⟩
    go_wp2_with fail
    refine (between_any _ _ _ _).mono ?_
    rintro e w1 ⟨rfl, rfl⟩
    go_wp2
    go_ret
    exact ⟨by simp [fitsB, g1, g2, g3], one_new _ _⟩
  by_cases h2 : kind = 2
  · subst h2
    go_wp2_with fail
    refine (between_any _ _ _ _).mono ?_
    rintro e w1 ⟨rfl, rfl⟩
    cases g1 : btw a 0 199
    · go_wp2
      go_ret
      exact ⟨by simp [fitsB, g1], one_new _ _⟩
    cases g2 : (b == 0)
    · go_wp2
      go_ret
      exact ⟨by simp [fitsB, g2], one_new _ _⟩
    go_wp2
    go_ret
    exact ⟨by simp [fitsB, g1, g2], one_new _ _⟩
  by_cases h3 : kind = 3
  · subst h3
    cases g1 : (a == 0)
    · go_wp2
      go_ret
      exact ⟨by simp [fitsB, g1], one_new _ _⟩
    cases g2 : (b == 0)
    · go_wp2
      go_ret
      exact ⟨by simp [fitsB, g2], one_new _ _⟩
    go_wp2
    go_ret
    exact ⟨by simp [fitsB, g1, g2], one_new _ _⟩
  have g1 : (kind == 1) = false := by simpa using h1
  have g2 : (kind == 2) = false := by simpa using h2
  have g3 : (kind == 3) = false := by simpa using h3
  go_wp2
  go_ret
  exact ⟨by simp [fitsB, h1, h2, h3], one_new _ _⟩
theorem size_zero {b : ByteArray} (h : b.size = 0) : b = ⟨#[]⟩ := by
  obtain ⟨⟨l⟩⟩ := b
  simp [ByteArray.size] at h
  subst h; rfl
theorem loop_some (b : ByteArray) : ∀ (j i : Nat) (r : List UInt8), b.size - i = j → r ≠ [] → (ByteArray.toList.loop b i r).isEmpty = false := by
  intro j
  induction j with
  | zero =>
    intro i r h hr
    unfold ByteArray.toList.loop
    rw [if_neg (by omega)]
    cases hx : r.reverse.isEmpty with
    | false => rfl
    | true => rw [List.isEmpty_iff, List.reverse_eq_nil_iff] at hx; exact absurd hx hr
  | succ j ih =>
    intro i r h hr
    unfold ByteArray.toList.loop
    rw [if_pos (by omega)]
    exact ih _ _ (by omega) (by simp)
theorem not_empty {b : ByteArray} (h : ¬ b = ⟨#[]⟩) : b.toList.isEmpty = false := by
  have h0 : b.size ≠ 0 := fun he => h (size_zero he)
  unfold ByteArray.toList ByteArray.toList.loop
  rw [if_pos (by omega)]
  exact loop_some b _ _ _ rfl (by simp)
/-- Whether Prev is as it has to be. -/
def prevB (s : Stm) : Bool := if s.number = 0 then decide (s.prev.size = 0) else ((s.prev.size : Int) == 32)
theorem hasPrev_any (s : Stm) (A : Option Addr) (n c : Nat) (B : Option Addr) (m k : Nat) (w : World) : Calls Tryz.prog 106 #[stmV s A n c B m k] w (SaysL (.bool (prevB s)) w) := by
  obtain ⟨author, number, prev, time, kind, a, b, cc, list, pins, body, key, dig⟩ := s
  unfold stmV
  go_enter Tryz.func106, Tryz.ntmps106
  by_cases h1 : number = 0
  · subst h1
    by_cases h2 : prev = ⟨#[]⟩
    · subst h2
      go_wp2
      go_ret
      exact ⟨by simp [prevB]; rfl, one_new _ _⟩
    · have h3 : prev.toList.isEmpty = false := not_empty h2
      have h4 : decide (prev.size = 0) = false := decide_eq_false fun h => h2 (size_zero h)
      go_wp2
      go_ret
      exact ⟨by show _ = Ending.returned (.bool (if (0 : Int) = 0 then decide (prev.size = 0) else _)); rw [if_pos rfl, h4]; rfl, one_new _ _⟩
  have g1 : (number == 0) = false := by simpa using h1
  go_wp2
  go_ret
  exact ⟨by simp [prevB, h1], one_new _ _⟩
end Go.Proofs.YtkglgboncngpbaaGreatDoor
/- The walk of statement.arePins. -/
namespace Go.Proofs.YtkglgboncngpbaaGreatDoor
open Go.RowKit
/-- Whether pin i is as it has to be. -/
def pinB (l : List PinD) (i : Nat) : Bool :=
  isKeyB (l.getD i noPin).author && btw (l.getD i noPin).height 1 200 && (((l.getD i noPin).digest.size : Int) == 32) && (i == 0 || decide ((l.getD (i - 1) noPin).author < (l.getD i noPin).author))
def pinsB (l : List PinD) : Bool := (List.range l.length).all (pinB l)
theorem all_no {f : Nat → Bool} {k n : Nat} (hk : k < n) (h : f k = false) : (List.range n).all f = false := by
  rw [List.all_eq_false]; exact ⟨k, List.mem_range.2 hk, by simp [h]⟩
theorem all_more {f : Nat → Bool} {k : Nat} (h : (List.range k).all f = true) (h1 : f k = true) : (List.range (k + 1)).all f = true := by
  rw [List.range_succ, List.all_append, h]; simp [h1]
theorem below_nq {B : Nat} {a w : World} (h : Below B a w) (n : Nat) : Below B a (w.drewN n) := ⟨h.os, h.tape, h.output, h.size, h.block⟩
set_option maxHeartbeats 1000000 in
theorem arePins_any (A : Option Addr) (n c : Nat) (l : List PinD) (w : World) (hr : PRow w A n c l) (hn : n ≤ 1000000) : Calls Tryz.prog 107 #[.slice A n c] w (SaysL (.bool (pinsB l)) w) := by
  have HR := Lib.hid hr; have HL := Lib.hid hr.len; clear hr
  go_enter Tryz.func107, Tryz.ntmps107
  go_wp2
  go_loopw [7] (fun i wr => ∃ k : Nat, k ≤ n ∧ i = .int .i64 k ∧ Hid ((List.range k).all (pinB l) = true ∧ Below w.heap.size w wr)) (fun i _ => n - (intOf i).toNat)
  case atStart => exact ⟨0, Nat.zero_le _, rfl, Lib.hid ⟨rfl, Below.refl _ _⟩⟩
  case round =>
    obtain ⟨k, hk, rfl, HQ⟩ := hrel
    by_cases hlt : k < n
    · obtain ⟨b, off, hA, hc0, hc1, hc2⟩ := (HR.out.later HQ.out.2).cells k hlt
      have hprev : k ≠ 0 → wr.cell? ⟨b, off + (k - 1) * 3, none⟩ = some (.int .i64 (l.getD (k - 1) noPin).author) := by
        intro h0
        obtain ⟨b', off', hA', hp, -, -⟩ := (HR.out.later HQ.out.2).cells (k - 1) (by omega)
        rw [hA] at hA'; injection hA' with hA'; injection hA' with h1 h2; subst h1; subst h2; exact hp
      subst hA
      have HB : Hid (pinB l k = (isKeyB (l.getD k noPin).author && btw (l.getD k noPin).height 1 200 && (((l.getD k noPin).digest.size : Int) == 32) && (k == 0 || decide ((l.getD (k - 1) noPin).author < (l.getD k noPin).author)))) := Lib.hid rfl
      generalize l.getD k noPin = p at hc0 hc1 hc2 HB
      generalize (l.getD (k - 1) noPin).author = q at hprev HB
      have HP := Lib.hid hprev; clear hprev
      have no : pinB l k = false → pinsB l = false := fun h => by rw [pinsB, HL.out]; exact all_no hlt h
      have NO := Lib.hid no; clear no
      go_wp2_with fail
      refine (isKey_any _ _).mono ?_
      rintro e w1 ⟨rfl, rfl⟩
      cases g1 : isKeyB p.author
      · go_wp2
        go_ret
        exact ⟨by rw [NO.out (by rw [HB.out, g1]; rfl)]; rfl, HQ.out.2.alloc HQ.out.2.size _⟩
      go_wp2_with fail
      refine (between_any _ _ _ _).mono ?_
      rintro e w1 ⟨rfl, rfl⟩
      cases g2 : btw p.height 1 200
      · go_wp2
        go_ret
        exact ⟨by rw [NO.out (by rw [HB.out, g1, g2]; rfl)]; rfl, HQ.out.2.alloc HQ.out.2.size _⟩
      cases g3 : ((p.digest.size : Int) == 32)
      · go_wp2
        go_ret
        exact ⟨by rw [NO.out (by rw [HB.out, g1, g2, g3]; rfl)]; rfl, HQ.out.2.alloc HQ.out.2.size _⟩
      have hbw : Below w.heap.size w (wr.alloc (.cells #[.int .i64 p.author, .int .i64 p.height, .string p.digest] 74)) := HQ.out.2.alloc HQ.out.2.size _
      have hn0 : (wr.alloc (.cells #[.int .i64 p.author, .int .i64 p.height, .string p.digest] 74)).cell? ⟨wr.heap.size, 0, none⟩ = some (.int .i64 p.author) := by rw [cell_of_row _ _ _ _ _ _ (heap_alloc_new _ _)]; rfl
      have hn2 : (wr.alloc (.cells #[.int .i64 p.author, .int .i64 p.height, .string p.digest] 74)).cell? ⟨wr.heap.size, 2, none⟩ = some (.string p.digest) := by rw [cell_of_row _ _ _ _ _ _ (heap_alloc_new _ _)]; rfl
      have hpo : k ≠ 0 → (wr.alloc (.cells #[.int .i64 p.author, .int .i64 p.height, .string p.digest] 74)).cell? ⟨b, off + (k - 1) * 3, none⟩ = some (.int .i64 q) := fun h0 => by
        rw [World.cell?_of_block (w := wr) (a := ⟨b, off + (k - 1) * 3, none⟩) ((one_new _ _).block b (World.block_lt_of_cell? wr (a := ⟨b, off + (k - 1) * 3, none⟩) (HP.out h0)))]; exact HP.out h0
      generalize wr.alloc (.cells #[.int .i64 p.author, .int .i64 p.height, .string p.digest] 74) = w2 at hbw hn0 hn2 hpo ⊢
      have HQ1 := Lib.hid HQ.out.1; have HW := Lib.hid hbw; have HPO := Lib.hid hpo; clear hbw hpo HQ hc0 hc1 hc2 HP
      by_cases h0 : k = 0
      · have e0 : decide ((0 : Int) < (k : Int)) = false := by rw [h0]; rfl
        have HK := Lib.hid h0
        go_wp2_with fail
        have h1 : (k : Int) = 0 := by omega
        go_quiet (fail)
        go_wp2
        refine ⟨⟨k + 1, hlt, by go_num, Lib.hid ⟨all_more HQ1.out (by rw [HB.out, g1, g2, g3, HK.out]; rfl), below_nq HW.out _⟩⟩, by simp [intOf]; omega⟩
      · have hp := HPO.out h0
        have e0 : (0 : Int) ≤ (k : Int) - 1 := by omega
        have e1 : (k : Int) - 1 < n := by omega
        have e2 : ((k : Int) - 1).toNat = k - 1 := by omega
        have e3 : (k == 0) = false := by simpa using h0
        have e4 : 0 < k := by omega
        have e5 : decide (0 < k) = true := decide_eq_true e4
        go_wp2_with fail
        go_quiet (fail)
        by_cases g4 : q < p.author
        · have g5 : ¬ p.author ≤ q := by omega
          have g6 : decide (q < p.author) = true := decide_eq_true g4
          have G6 := Lib.hid g6; clear g6
          go_wp2
          refine ⟨⟨k + 1, hlt, by go_num, Lib.hid ⟨all_more HQ1.out (by rw [HB.out, g1, g2, g3, e3, G6.out]; rfl), below_nq HW.out _⟩⟩, by simp [intOf]; omega⟩
        · have g5 : p.author ≤ q := by omega
          have g6 : decide (q < p.author) = false := decide_eq_false g4
          have G6 := Lib.hid g6; clear g6
          go_wp2
          go_ret
          exact ⟨by rw [NO.out (by rw [HB.out, g1, g2, g3, e3, G6.out]; rfl)]; rfl, below_nq HW.out _⟩
    · have HE : Hid (k = n) := by unfold Hid; omega
      go_wp2
      go_ret
      exact ⟨by rw [pinsB, HL.out, ← HE.out, HQ.out.1]; rfl, HQ.out.2⟩
end Go.Proofs.YtkglgboncngpbaaGreatDoor
/- The walks of statement.inRange, hasForm, Check. -/
namespace Go.Proofs.YtkglgboncngpbaaGreatDoor
open Go.RowKit
def listB' (l : List Int) : Bool := (List.range l.length).all fun i => isValueB (l.getD i 0)
/-- Whether all numbers are in their ranges. -/
def rangeB (s : Stm) : Bool := btw s.number 0 199 && isValueB s.a && isValueB s.b && isValueB s.c && listB' s.list && fitsB s
theorem IRow.cell {w : World} {A : Option Addr} {n c : Nat} {l : List Int} (h : IRow w A n c l) (k : Nat) (hk : k < n) : ∃ b off, A = some ⟨b, off, none⟩ ∧ w.cell? ⟨b, off + k, none⟩ = some (.int .i64 (l.getD k 0)) := by
  obtain ⟨b, off, hA, hc⟩ := Row.form h (by omega)
  have hl := h.len
  have := hc k (by omega)
  rw [intsV_get _ _ (by omega)] at this
  exact ⟨b, off, hA, this⟩
/-- The cells of a statement that lies in a block of its own. -/
theorem stm_cells {W : World} {g : Nat} {s : Stm} {A : Option Addr} {n c : Nat} {B : Option Addr} {m k : Nat} {t : TypeId} {fr : Nat × Nat}
    (h : W.heap[g]? = some (.cells #[.int .i64 s.author, .int .i64 s.number, .string s.prev, .int .i64 s.time, .int .i64 s.kind, .int .i64 s.a, .int .i64 s.b, .int .i64 s.c, .slice A n c, .slice B m k, .string s.body, .int .i64 s.key, .string s.dig] t fr)) :
    W.cell? ⟨g, 0, none⟩ = some (.int .i64 s.author) ∧ W.cell? ⟨g, 1, none⟩ = some (.int .i64 s.number) ∧ W.cell? ⟨g, 2, none⟩ = some (.string s.prev) ∧ W.cell? ⟨g, 3, none⟩ = some (.int .i64 s.time) ∧ W.cell? ⟨g, 4, none⟩ = some (.int .i64 s.kind) ∧ W.cell? ⟨g, 5, none⟩ = some (.int .i64 s.a) ∧ W.cell? ⟨g, 6, none⟩ = some (.int .i64 s.b) ∧ W.cell? ⟨g, 7, none⟩ = some (.int .i64 s.c) ∧ W.cell? ⟨g, 8, none⟩ = some (.slice A n c) ∧ W.cell? ⟨g, 9, none⟩ = some (.slice B m k) ∧ W.cell? ⟨g, 10, none⟩ = some (.string s.body) ∧ W.cell? ⟨g, 11, none⟩ = some (.int .i64 s.key) ∧ W.cell? ⟨g, 12, none⟩ = some (.string s.dig) := by
  refine ⟨?_, ?_, ?_, ?_, ?_, ?_, ?_, ?_, ?_, ?_, ?_, ?_, ?_⟩ <;> (rw [cell_of_row _ _ _ _ _ _ h]; rfl)
theorem box_below (w : World) (o : Obj) : Below w.heap.size w (w.alloc o) := one_new w o
set_option maxHeartbeats 1000000 in
theorem inRange_any (s : Stm) (A : Option Addr) (n c : Nat) (B : Option Addr) (m k : Nat) (w : World) (hl : IRow w A n c s.list) (hn : n ≤ 1000000) :
    Calls Tryz.prog 80 #[stmV s A n c B m k] w (SaysL (.bool (rangeB s)) w) := by
  have HL := Lib.hid hl; have HN := Lib.hid hl.len; clear hl
  obtain ⟨S, hS⟩ : ∃ S, S = s := ⟨_, rfl⟩
  have HS : Hid (rangeB s = (btw s.number 0 199 && isValueB s.a && isValueB s.b && isValueB s.c && listB' s.list && fitsB S)) := by subst hS; exact Lib.hid rfl
  have HF : ∀ w, Calls Tryz.prog 105 #[stmV s A n c B m k] w (SaysL (.bool (fitsB S)) w) := fun w => by subst hS; exact fitsKind_any _ _ _ _ _ _ _ w
  have HFF := Lib.hid HF; clear HF hS
  obtain ⟨author, number, prev, time, kind, a, b, cc, list, pins, body, key, dig⟩ := s
  unfold stmV at HFF ⊢
  simp only at HL HN HS HFF
  generalize rangeB _ = R at HS ⊢
  go_enter Tryz.func80, Tryz.ntmps80
  go_wp2_with fail
  refine (between_any _ _ _ _).mono ?_
  rintro e w1 ⟨rfl, rfl⟩
  cases g1 : btw number 0 199
  · go_wp2
    go_ret
    exact ⟨by rw [HS.out, g1]; rfl, one_new _ _⟩
  go_wp2_with fail
  refine (isValue_any _ _).mono ?_
  rintro e w1 ⟨rfl, rfl⟩
  cases g2 : isValueB a
  · go_wp2
    go_ret
    exact ⟨by rw [HS.out, g1, g2]; rfl, one_new _ _⟩
  go_wp2_with fail
  refine (isValue_any _ _).mono ?_
  rintro e w1 ⟨rfl, rfl⟩
  cases g3 : isValueB b
  · go_wp2
    go_ret
    exact ⟨by rw [HS.out, g1, g2, g3]; rfl, one_new _ _⟩
  go_wp2_with fail
  refine (isValue_any _ _).mono ?_
  rintro e w1 ⟨rfl, rfl⟩
  cases g4 : isValueB cc
  · go_wp2
    go_ret
    exact ⟨by rw [HS.out, g1, g2, g3, g4]; rfl, one_new _ _⟩
  have HS2 : Hid (R = (listB' list && fitsB S)) := by unfold Hid; rw [HS.out, g1, g2, g3, g4]; rfl
  clear HS g1 g2 g3 g4
  have HX := Lib.hid (HL.out.later (one_new w (.cells #[.int .i64 author, .int .i64 number, .string prev, .int .i64 time, .int .i64 kind, .int .i64 a, .int .i64 b, .int .i64 cc, .slice A n c, .slice B m k, .string body, .int .i64 key, .string dig] 27)))
  go_wp2
  go_loopw [30] (fun i wr => ∃ j : Nat, j ≤ n ∧ i = .int .i64 j ∧ wr = w.alloc (.cells #[.int .i64 author, .int .i64 number, .string prev, .int .i64 time, .int .i64 kind, .int .i64 a, .int .i64 b, .int .i64 cc, .slice A n c, .slice B m k, .string body, .int .i64 key, .string dig] 27) ∧ Hid ((List.range j).all (fun i => isValueB (list.getD i 0)) = true)) (fun i _ => n - (intOf i).toNat)
  case atStart => exact ⟨0, Nat.zero_le _, rfl, rfl, Lib.hid rfl⟩
  case round =>
    obtain ⟨j, hj, rfl, rfl, HQ⟩ := hrel
    by_cases hlt : j < n
    · obtain ⟨ab, off, hA, hc0⟩ := HX.out.cell j hlt
      subst hA
      have NO : Hid (isValueB (list.getD j 0) = false → listB' list = false) := Lib.hid fun h => by rw [listB', HN.out]; exact all_no hlt h
      have YES : Hid (isValueB (list.getD j 0) = true → (List.range (j + 1)).all (fun i => isValueB (list.getD i 0)) = true) := Lib.hid fun h => all_more HQ.out h
      clear HX
      generalize list.getD j 0 = x at hc0 NO YES
      go_wp2_with fail
      refine (isValue_any _ _).mono ?_
      rintro e w1 ⟨rfl, rfl⟩
      cases g1 : isValueB x
      · go_wp2
        go_ret
        exact ⟨by rw [HS2.out, NO.out g1]; rfl, one_new _ _⟩
      · go_wp2
        refine ⟨⟨j + 1, hlt, by go_num, by simp, Lib.hid (YES.out g1)⟩, by simp [intOf]; omega⟩
    · have HE : Hid (j = n) := by unfold Hid; omega
      have HS3 : Hid (R = fitsB S) := by unfold Hid; rw [HS2.out, listB', HN.out, ← HE.out, HQ.out]; rfl
      clear HX HS2
      go_wp2_with fail
      refine (HFF.out _).mono ?_
      rintro e w1 ⟨rfl, hb⟩
      go_wp2
      go_ret
      exact ⟨by rw [HS3.out]; rfl, (one_new w _).trans (hb.mono (by simp))⟩
/-- Whether Prev and the pins are as they have to be, and nothing is there that its kind does not have. -/
def formB (s : Stm) : Bool :=
  if isTrustB s.kind && decide (0 < s.list.length + s.pins.length + s.body.size) then false else prevB s && pinsB s.pins
set_option maxHeartbeats 1000000 in
theorem hasForm_any (s : Stm) (A : Option Addr) (n c : Nat) (B : Option Addr) (m k : Nat) (w : World) (hl : s.list.length = n) (hp : PRow w B m k s.pins) (hn : n ≤ 1000000) (hm : m ≤ 1000000) (hb : s.body.size ≤ 100000000) :
    Calls Tryz.prog 81 #[stmV s A n c B m k] w (SaysL (.bool (formB s)) w) := by
  have HP := Lib.hid hp; have HN := Lib.hid hl; have HM := Lib.hid hp.len; clear hl hp
  obtain ⟨S, hS⟩ : ∃ S, S = s := ⟨_, rfl⟩
  have HS : Hid (formB s = if isTrustB s.kind && decide (0 < n + m + s.body.size) then false else prevB S && pinsB s.pins) := by subst hS; unfold Hid formB; rw [HN.out, HM.out]
  have HF : ∀ w, Calls Tryz.prog 106 #[stmV s A n c B m k] w (SaysL (.bool (prevB S)) w) := fun w => by subst hS; exact hasPrev_any _ _ _ _ _ _ _ w
  have HFF := Lib.hid HF; clear HF hS HN HM
  obtain ⟨author, number, prev, time, kind, a, b, cc, list, pins, body, key, dig⟩ := s
  unfold stmV at HFF ⊢
  simp only at HP HS HFF hb
  generalize formB _ = R at HS ⊢
  go_enter Tryz.func81, Tryz.ntmps81
  go_wp2_with fail
  refine (isTrust_any _ _).mono ?_
  rintro e w1 ⟨rfl, rfl⟩
  cases g1 : isTrustB kind
  · have HS2 : Hid (R = (prevB S && pinsB pins)) := by unfold Hid; rw [HS.out, g1]; rfl
    clear HS
    go_wp2_with fail
    refine (HFF.out _).mono ?_
    rintro e w1 ⟨rfl, hb1⟩
    have HB1 := Lib.hid ((one_new w _).trans (hb1.mono (by simp))); have HC := Lib.hid ((hb1.block w.heap.size (by simp)).trans (heap_alloc_new _ _)); clear hb1
    cases g2 : prevB S
    · go_wp2
      go_ret
      exact ⟨by rw [HS2.out, g2]; rfl, HB1.out⟩
    have hc9 : w1.cell? ⟨w.heap.size, 9, none⟩ = some (.slice B m k) := by rw [cell_of_row _ _ _ _ _ _ HC.out]; rfl
    go_wp2_with fail
    refine (arePins_any B m k pins w1 (HP.out.later HB1.out) hm).mono ?_
    rintro e w2 ⟨rfl, hb2⟩
    go_wp2
    go_ret
    exact ⟨by rw [HS2.out, g2]; rfl, HB1.out.trans (hb2.mono HB1.out.size)⟩
  · by_cases g0 : 0 < n + m + body.size
    · have e0 : (0 : Int) < (n : Int) + (m : Int) + (body.size : Int) := by omega
      have HS2 : Hid (R = false) := by unfold Hid; rw [HS.out, g1, if_pos (by simpa using g0)]
      go_wp2
      go_ret
      exact ⟨by rw [HS2.out]; rfl, one_new _ _⟩
    · have e0 : ¬ (0 : Int) < (n : Int) + (m : Int) + (body.size : Int) := by omega
      have HS2 : Hid (R = (prevB S && pinsB pins)) := by unfold Hid; rw [HS.out, g1, if_neg (by simpa using g0)]
      clear HS
      go_wp2_with fail
      refine (HFF.out _).mono ?_
      rintro e w1 ⟨rfl, hb1⟩
      have HB1 := Lib.hid ((one_new w _).trans (hb1.mono (by simp))); have HC := Lib.hid ((hb1.block w.heap.size (by simp)).trans (heap_alloc_new _ _)); clear hb1
      cases g2 : prevB S
      · go_wp2
        go_ret
        exact ⟨by rw [HS2.out, g2]; rfl, HB1.out⟩
      have hc9 : w1.cell? ⟨w.heap.size, 9, none⟩ = some (.slice B m k) := by rw [cell_of_row _ _ _ _ _ _ HC.out]; rfl
      go_wp2_with fail
      refine (arePins_any B m k pins w1 (HP.out.later HB1.out) hm).mono ?_
      rintro e w2 ⟨rfl, hb2⟩
      go_wp2
      go_ret
      exact ⟨by rw [HS2.out, g2]; rfl, HB1.out.trans (hb2.mono HB1.out.size)⟩
/-- What Check returns. -/
def checkV (s : Stm) : Int :=
  if isKeyB s.author = false then 4 else if isKindB s.kind = false then 5 else if btw s.time 0 2147483648 = false then 9 else if rangeB s = false then 2
  else if 64 < s.list.length ∨ 64 < s.pins.length ∨ 4096 < s.body.size then 3 else if formB s = false then 1 else 0
set_option maxHeartbeats 1000000 in
theorem check_any (s : Stm) (A : Option Addr) (n c : Nat) (B : Option Addr) (m k : Nat) (w : World) (hl : IRow w A n c s.list) (hp : PRow w B m k s.pins) (hn : n ≤ 1000000) (hm : m ≤ 1000000) (hb : s.body.size ≤ 100000000) :
    Calls Tryz.prog 53 #[stmV s A n c B m k] w (SaysL (.int .i64 (checkV s)) w) := by
  have HL := Lib.hid hl; have HP := Lib.hid hp; have HN := Lib.hid hl.len; have HM := Lib.hid hp.len; clear hl hp
  obtain ⟨S, hS⟩ : ∃ S, S = s := ⟨_, rfl⟩
  have HS : Hid (checkV s = if isKeyB s.author = false then 4 else if isKindB s.kind = false then 5 else if btw s.time 0 2147483648 = false then 9 else if rangeB S = false then 2 else if 64 < n ∨ 64 < m ∨ 4096 < s.body.size then 3 else if formB S = false then 1 else 0) := by subst hS; unfold Hid checkV; rw [HN.out, HM.out]
  have HF1 : Hid (∀ w', Below w.heap.size w w' → Calls Tryz.prog 80 #[stmV s A n c B m k] w' (SaysL (.bool (rangeB S)) w')) := Lib.hid fun w' h => by subst hS; exact inRange_any _ _ _ _ _ _ _ w' (HL.out.later h) hn
  have HF2 : Hid (∀ w', Below w.heap.size w w' → Calls Tryz.prog 81 #[stmV s A n c B m k] w' (SaysL (.bool (formB S)) w')) := Lib.hid fun w' h => by subst hS; exact hasForm_any _ _ _ _ _ _ _ w' HN.out (HP.out.later h) hn hm hb
  clear hS HN HM HL HP
  obtain ⟨author, number, prev, time, kind, a, b, cc, list, pins, body, key, dig⟩ := s
  unfold stmV at HF1 HF2 ⊢
  simp only at HS HF1 HF2 hb
  generalize checkV _ = R at HS ⊢
  go_enter Tryz.func53, Tryz.ntmps53
  go_wp2_with fail
  refine (isKey_any _ _).mono ?_
  rintro e w1 ⟨rfl, rfl⟩
  cases g1 : isKeyB author
  · go_wp2
    go_ret
    exact ⟨by rw [HS.out, g1]; rfl, one_new _ _⟩
  go_wp2_with fail
  refine (isKind_any _ _).mono ?_
  rintro e w1 ⟨rfl, rfl⟩
  cases g2 : isKindB kind
  · go_wp2
    go_ret
    exact ⟨by rw [HS.out, g1, g2]; rfl, one_new _ _⟩
  go_wp2_with fail
  refine (between_any _ _ _ _).mono ?_
  rintro e w1 ⟨rfl, rfl⟩
  cases g3 : btw time 0 2147483648
  · go_wp2
    go_ret
    exact ⟨by rw [HS.out, g1, g2, g3]; rfl, one_new _ _⟩
  have HS2 : Hid (R = if rangeB S = false then 2 else if 64 < n ∨ 64 < m ∨ 4096 < body.size then 3 else if formB S = false then 1 else 0) := by unfold Hid; rw [HS.out, g1, g2, g3]; rfl
  clear HS g1 g2 g3
  go_wp2_with fail
  refine (HF1.out _ (one_new _ _)).mono ?_
  rintro e w1 ⟨rfl, hb1⟩
  have HB1 := Lib.hid ((one_new w _).trans (hb1.mono (by simp))); have HC := Lib.hid ((hb1.block w.heap.size (by simp)).trans (heap_alloc_new _ _)); clear hb1
  cases g1 : rangeB S
  · go_wp2
    go_ret
    exact ⟨by rw [HS2.out, g1]; rfl, HB1.out⟩
  obtain ⟨hc0, hc1, hc2, hc3, hc4, hc5, hc6, hc7, hc8, hc9, hc10, hc11, hc12⟩ := stm_cells (s := ⟨author, number, prev, time, kind, a, b, cc, list, pins, body, key, dig⟩) HC.out
  by_cases h1 : 64 < n
  · go_wp2
    go_ret
    exact ⟨by rw [HS2.out, g1, if_neg (by simp), if_pos (.inl h1)]; rfl, HB1.out⟩
  by_cases h2 : 64 < m
  · go_wp2
    go_ret
    exact ⟨by rw [HS2.out, g1, if_neg (by simp), if_pos (.inr (.inl h2))]; rfl, HB1.out⟩
  by_cases h3 : 4096 < body.size
  · go_wp2
    go_ret
    exact ⟨by rw [HS2.out, g1, if_neg (by simp), if_pos (.inr (.inr h3))]; rfl, HB1.out⟩
  have HS3 : Hid (R = if formB S = false then 1 else 0) := by unfold Hid; rw [HS2.out, g1, if_neg (by simp), if_neg (by omega)]
  clear HS2
  go_wp2_with fail
  refine (HF2.out _ HB1.out).mono ?_
  rintro e w2 ⟨rfl, hb2⟩
  cases g2 : formB S
  · go_wp2
    go_ret
    exact ⟨by rw [HS3.out, g2]; rfl, HB1.out.trans (hb2.mono HB1.out.size)⟩
  · go_wp2
    go_ret
    exact ⟨by rw [HS3.out, g2]; rfl, HB1.out.trans (hb2.mono HB1.out.size)⟩
end Go.Proofs.YtkglgboncngpbaaGreatDoor
