import Derived.OrdersHeld
import Derived.Deep.RegionHeld3
import Derived.BigQuiet
import Derived.Below
import Derived.WalkKit
import Derived.Laws.BitsAllLaws
import Derived.Lib.SlBytesRow
import Derived.WalkSpells
import Derived.OwnWalk
import Derived.Laws.OwnMore
import Derived.Deep.AppendSrc
import Derived.Laws.CopyRow
import Derived.Lib.Hide
import Derived.Test.YtdildmfjekdlgaaRows
import Derived.KernelRfl
import Derived.Outline
import Derived.Laws.StructEq
/- A region that draws its order, walked once in an order of the prover's: readers first, then one operation that may make memory, and so on. Plain facts over any program. -/
namespace Go.Proofs.Ytdildmfjekdlgaa
open Go.RowKit Go

def isRead (o : Oper) : Bool :=
  match o.op with
  | .move _ | .assign _ | .pick .. | .binOp .. | .unOp .. | .convert .. | .slice .. | .fieldAddr .. | .field .. | .indexAddr .. | .index .. | .load .. | .extract .. | .lookup .. | .nilCheck _ => true
  | .call c => match c.callee with | .builtin .len => true | .builtin .cap => true | .builtin .min => true | .builtin .max => true | _ => false
  | _ => false

theorem andThen_value {r : Result Value} {n : Next} {w' : World} (h : (r.andThen fun x w => (Result.ok (Next.value x) w)) = .ok n w') : ∃ v, n = .value v := by
  cases r with
  | ok x w => simp only [Result.andThen_ok] at h; injection h with h1 h2; exact ⟨_, h1.symm⟩
  | halt x w => cases h
theorem run_v {P : Program} {s : Sem Value} {w w' : World} {n : Next} (h : (do pure (Next.value (← s)) : Sem Next).run P w = .ok n w') : ∃ v, n = .value v := by
  rw [Sem.run_bind] at h; exact andThen_value h
theorem run_nilDeref {P : Program} {w w' : World} {n : Next} (h : (runtimePanic .nilDeref : Sem Next).run P w = .ok n w') : False := by
  simp [runtimePanic, goPanic, program, Sem.run] at h

theorem andThen_some {α β : Type} {r : Result α} {f : α → World → Result β} {y : β} {w' : World} (h : r.andThen f = .ok y w') : ∃ x w, f x w = .ok y w' := by
  cases r with
  | ok x w => exact ⟨x, w, h⟩
  | halt x w => cases h
theorem read_value {P : Program} {o : Oper} (h : isRead o = true) {ρ : Operand → Value} {w w' : World} {n : Next} (hr : (execOp ρ o).run P w = .ok n w') : ∃ v, n = .value v := by
  obtain ⟨dst, op, t, pos, after, g⟩ := o
  cases op with
  | call c =>
    simp only [isRead] at h
    obtain ⟨cal, args, tys⟩ := c
    simp only [execOp, resolve] at hr
    split at h <;> first | cases h | skip
    all_goals (rename_i hc; simp only at hc; subst hc; simp only [Sem.run_bind, Sem.run_pure, Result.andThen_ok, invoke, builtin] at hr; exact andThen_value hr)
  | nilCheck x =>
    simp only [execOp] at hr
    split at hr
    · exact (run_nilDeref hr).elim
    · exact (run_nilDeref hr).elim
    · exact (run_nilDeref hr).elim
    · split at hr
      · exact (run_nilDeref hr).elim
      · rw [Sem.run_bind] at hr
        obtain ⟨p, w1, hr⟩ := andThen_some hr
        rw [Sem.run_bind] at hr
        obtain ⟨b, w2, hr⟩ := andThen_some hr
        split at hr
        · rw [Sem.run_bind] at hr; simp [unsupported] at hr
        · simp at hr; exact ⟨_, hr.1.symm⟩
      · simp at hr; exact ⟨_, hr.1.symm⟩
    · simp at hr; exact ⟨_, hr.1.symm⟩
  | pick c a b =>
    simp only [execOp] at hr
    rw [Sem.run_bind] at hr
    obtain ⟨b, w1, hr⟩ := andThen_some hr
    simp at hr; exact ⟨_, hr.1.symm⟩
  | move _ | assign _ => simp only [execOp, Sem.run_pure] at hr; injection hr with h1 _; exact ⟨_, h1.symm⟩
  | binOp _ _ _ _ _ | unOp _ _ _ | convert _ _ _ | slice _ _ _ _ _ | fieldAddr _ _ _ | field _ _ _ | indexAddr _ _ _ | index _ _ _ | load _ _ | extract _ _ | lookup _ _ _ _ => exact run_v hr
  | _ => cases h

/-- w' is a world that may come behind w: below the size of w's heap nothing has turned. -/
def Later (w w' : World) : Prop := Below w.heap.size w w'
theorem Later.refl (w : World) : Later w w := Below.refl _ _
theorem Later.trans {a b c : World} (h : Later a b) (k : Later b c) : Later a c := Below.trans h (k.mono h.size)
theorem Later.drew (w : World) : Later w w.drew := (Below.refl _ _).drew
open Classical in
/-- x, if x may come behind w; else w. -/
noncomputable def fut (F : World → World → Prop) (w x : World) : World := if F w x then x else w
def Futs (F : World → World → Prop) (w : World) : World → Prop := fun w' => ∃ x, w' = fut F w x
attribute [go_sem] Futs
theorem Futs.of {F : World → World → Prop} {w w' : World} (h : F w w') : Futs F w w' := ⟨w', by unfold fut; rw [if_pos h]⟩
theorem fut_ok {F : World → World → Prop} (hr : ∀ w, F w w) (w x : World) : F w (fut F w x) := by
  unfold fut; split
  · assumption
  · exact hr w
theorem Futs.to {F : World → World → Prop} (hr : ∀ w, F w w) {w w' : World} (h : Futs F w w') : F w w' := by
  obtain ⟨x, rfl⟩ := h; exact fut_ok hr w x
/-- What is asked at the end of a piece of a region; no other end is let in. -/
def pieceEnd (N : Act → World → Prop) : Exit → Act → World → Prop
  | .normal, a, w => N a w
  | _, _, _ => False
theorem pieceEnd_normal {N : Act → World → Prop} {a : Act} {w : World} (h : N a w) : pieceEnd N .normal a w := h
def noOper : Oper := { dst := none, op := .panic (.const undef), type := 0, pos := "", after := #[], guard := none }
def pick (l : List Oper) (i : Nat) : Oper := l.getD i noOper
section
variable {P : Program} {md : Region.Mode} {F : World → World → Prop}

/-- A region's operations in an order of the prover's, piece by piece: readers, then one operation that may make memory. -/
def wpGrow (P : Program) (ops : Array Oper) (F : World → World → Prop) (Q : Act → World → Prop) (last : List Oper) : List (List Oper × Oper) → Act → World → Prop
  | [], a, w => wpQuiet P ops (Futs F w) (fun a' => Q a' w) last a
  | (rs, e) :: more, a, w => wpQuiet P ops (Futs F w) (fun a' => wpList P ops (pieceEnd fun a'' w' => F w w' ∧ wpGrow P ops F Q last more a'' w') [e] a' w) rs a

def setAll : List Nat → Array Bool → Array Bool
  | [], l => l
  | i :: is, l => setAll is (l.setIfInBounds i true)
def readsB (md : Region.Mode) (ops : List Oper) : List Nat → Array Bool → Bool
  | [], _ => true
  | i :: is, l => (Region.ready md ops.toArray l).contains i && Region.free md ops.toArray l i && isRead (pick ops i) && decide (i < ops.length) && readsB md ops is (l.setIfInBounds i true)
/-- The order may be taken: each reader may come up, and is free; where an operation of the other kind comes up, no other one may. -/
def growB (md : Region.Mode) (ops : List Oper) (last : List Nat) : List (List Nat × Nat) → Array Bool → Bool
  | [], listed => readsB md ops last listed && (Region.ready md ops.toArray (setAll last listed)).isEmpty
  | (rs, e) :: more, listed => readsB md ops rs listed && (Region.ready md ops.toArray (setAll rs listed) == [e]) && decide (e < ops.length) && growB md ops last more ((setAll rs listed).setIfInBounds e true)
def growLen (last : List Nat) : List (List Nat × Nat) → Nat
  | [] => last.length
  | (rs, _) :: more => rs.length + (growLen last more + 1)

theorem pick_at {l : List Oper} {i : Nat} (h : i < l.length) : l.toArray[i]? = some (pick l i) := by
  simp [pick, h]
theorem quiet_yields {ops : Array Oper} {C : World → Prop} {o : Oper} {a : Act} {v : Value} (ho : isRead o = true) (hw : Region.wanted o (yielded ops a.tmps) = true) (h : ∀ w, C w → o.quietAt P a C w v) : YieldsIf P ops C o v a := by
  refine .inl ⟨hw, fun w hC => ?_⟩
  have h1 := h w hC
  unfold Oper.quietAt at h1
  cases hr : (execOp a.eval o).run P w with
  | halt x w' => rw [hr] at h1; exact h1.elim
  | ok n w' =>
    obtain ⟨u, rfl⟩ := read_value ho hr
    rw [hr] at h1
    obtain ⟨rfl, rfl⟩ := h1
    rfl
theorem wpAnyH_mono {ops : Array Oper} {Q : Exit → Act → World → Prop} {S S' : World → Prop} (hS : ∀ w, S' w → S w) : ∀ (fuel : Nat) (listed : Array Bool) (a : Act) (w : World), wpAnyH P md ops Q S' fuel listed a w → wpAnyH P md ops Q S fuel listed a w
  | 0, _, _, _, h => h
  | fuel + 1, _, _, _, h => ⟨h.1, fun i hi => wpOp_mono (fun a' w' h' => ⟨hS _ h'.1, wpAnyH_mono hS fuel _ a' w' h'.2⟩) (h.2 i hi)⟩
theorem wp_post {o : Oper} {a : Act} {w : World} {K : Act → World → Prop} {Q Q' : Exit → Act → World → Prop} (hp : ∀ c a w, Q (.panic c) a w → Q' (.panic c) a w) (hl : LetsOut Q → LetsOut Q') (h : o.wp P a w K Q) : o.wp P a w K Q' := by
  unfold Oper.wp at *
  generalize (execOp a.eval o).run P w = r at *
  cases r with
  | ok n w' =>
    cases n <;> simp only [Oper.upon] at h ⊢ <;>
      first
        | exact h
        | exact Calls.mono h (fun e w'' he => by cases e <;> first | exact he | exact hp _ _ _ he | exact hl he)
  | halt x w' => cases x <;> simp only [Oper.upon] at h ⊢; exact hp _ _ _ h
theorem wpAnyH_reads {l : List Oper} {Q0 : Exit → Act → World → Prop} {C : World → Prop} {w : World} (hs : Region.noSelect l.toArray = true) (hC : C w) {Qa : Act → Prop} {fuel : Nat} :
    ∀ (is : List Nat) (listed : Array Bool) (a : Act), readsB md l is listed = true → wpQuiet P l.toArray C Qa (is.map (pick l)) a →
      (∀ a', Qa a' → wpAnyH P md l.toArray (NoPanic Q0) C fuel (setAll is listed) a' w) → wpAnyH P md l.toArray (NoPanic Q0) C (is.length + fuel) listed a w
  | [], listed, a, _, h, hk => by rw [List.length_nil, Nat.zero_add]; exact hk a h
  | i :: is, listed, a, hB, h, hk => by
    simp only [readsB, Bool.and_eq_true, decide_eq_true_eq] at hB
    obtain ⟨⟨⟨⟨h1, h2⟩, h3⟩, h4⟩, h5⟩ := hB
    rw [show (i :: is).length + fuel = (is.length + fuel) + 1 by rw [List.length_cons]; omega]
    rw [List.map_cons] at h
    unfold wpQuiet at h
    split at h
    · rename_i hw
      obtain ⟨v, hv, hn⟩ := h
      exact wpAnyH_take (pick_at h4) hs h2 h1 (fun _ _ _ h => h) (quiet_yields h3 hw hv) hC (wpAnyH_reads hs hC is _ _ h5 hn hk)
    · rename_i hw
      exact wpAnyH_take (pick_at h4) hs h2 h1 (fun _ _ _ h => h) (.inr ⟨by simpa using hw, rfl⟩) hC (wpAnyH_reads hs hC is _ _ h5 h hk)
theorem wpAnyH_grow {l : List Oper} {Q : Exit → Act → World → Prop} (hr : ∀ w, F w w) (ht : ∀ a b c, F a b → F b c → F a c) (hs : Region.noSelect l.toArray = true) (last : List Nat) :
    ∀ (segs : List (List Nat × Nat)) (listed : Array Bool) (a : Act) (w : World), growB md l last segs listed = true →
      wpGrow P l.toArray F (fun a w => Q .normal a w) (last.map (pick l)) (segs.map fun s => (s.1.map (pick l), pick l s.2)) a w →
      wpAnyH P md l.toArray (NoPanic Q) (Futs F w) (growLen last segs) listed a w
  | [], listed, a, w, hB, h => by
    simp only [growB, Bool.and_eq_true, List.isEmpty_iff] at hB
    have := wpAnyH_reads (Q0 := Q) (fuel := 0) hs (Futs.of (hr w)) last listed a hB.1 h (fun a' ha' => ⟨hB.2, ha'⟩)
    exact this
  | (rs, e) :: more, listed, a, w, hB, h => by
    simp only [growB, Bool.and_eq_true, decide_eq_true_eq, beq_iff_eq] at hB
    obtain ⟨⟨⟨h1, h2⟩, h3⟩, h4⟩ := hB
    refine wpAnyH_reads hs (Futs.of (hr w)) rs listed a h1 h (fun a' ha' => ?_)
    refine wpAnyH_all h2 (by simp) (fun i hi => ?_)
    obtain rfl : i = e := by simpa using hi
    have hK : ∀ a'' w', (F w w' ∧ wpGrow P l.toArray F (fun a w => Q .normal a w) (last.map (pick l)) (more.map fun s => (s.1.map (pick l), pick l s.2)) a'' w') →
        Futs F w w' ∧ wpAnyH P md l.toArray (NoPanic Q) (Futs F w) (growLen last more) ((setAll rs listed).setIfInBounds i true) a'' w' := fun a'' w' ⟨hF, hg⟩ =>
      ⟨Futs.of hF, wpAnyH_mono (fun x hx => Futs.of (ht _ _ _ hF (hx.to hr))) _ _ _ _ (wpAnyH_grow hr ht hs last more _ a'' w' h4 hg)⟩
    unfold wpOp
    simp only [pick_at h3]
    unfold wpList at ha'
    split at ha'
    · rename_i hw
      rw [if_pos hw]
      rcases ha' with ha' | ⟨_, ⟨_, _, hx⟩⟩
      · refine .inl (wp_post (Q := pieceEnd _) (fun _ _ _ h => h.elim) (fun ⟨_, _, h⟩ => h.elim) (Oper.wp_mono (fun a'' w' h => hK a'' w' h) ha'))
      · exact hx.elim
    · rename_i hw
      rw [if_neg hw]
      exact hK _ _ ha'
/-- A REGION THAT DRAWS ITS ORDER: one walk, in an order of the prover's. -/
theorem wp_region_grow {l : List Oper} {id : Nat} {Q : Exit → Act → World → Prop} {a : Act} {w : World} (hm : P.follows .mixedOrders = true) (F : World → World → Prop) (hr : ∀ w, F w w) (ht : ∀ a b c, F a b → F b c → F a c)
    (last : List Nat) (segs : List (List Nat × Nat)) (hs : Region.noSelect l.toArray = true) (hn : growLen last segs = l.length) (hB : growB .any l last segs (Array.replicate l.length false) = true)
    (h : wpGrow P l.toArray F (fun a w => Q .normal a w) (last.map (pick l)) (segs.map fun s => (s.1.map (pick l), pick l s.2)) a w.drew) : (Code.region id l.toArray true).wp P Q a w := by
  refine wp_region_noPanic (wp_region_held hm (S := Futs F w.drew) ?_)
  rw [List.size_toArray, ← hn]
  have := wpAnyH_grow (md := .any) (Q := Q) hr ht hs last segs (Array.replicate l.length false) a w.drew hB h
  rw [hn]; rw [hn] at this; exact this
end

section
variable {P : Program} {ops : Array Oper} {F : World → World → Prop} {Q : Act → World → Prop} {last : List Oper}
theorem wpGrow_nil {a : Act} {w : World} (h : wpQuiet P ops (Futs F w) (fun a' => Q a' w) last a) : wpGrow P ops F Q last [] a w := h
theorem wpGrow_cons {rs : List Oper} {e : Oper} {more : List (List Oper × Oper)} {a : Act} {w : World} (h : wpQuiet P ops (Futs F w) (fun a' => wpList P ops (pieceEnd fun a'' w' => F w w' ∧ wpGrow P ops F Q last more a'' w') [e] a' w) rs a) : wpGrow P ops F Q last ((rs, e) :: more) a w := h
end
end Go.Proofs.Ytdildmfjekdlgaa
/- Bytes, strings and numbers of 8 bytes as the walk spells them: plain facts, no program. -/
namespace Go.Proofs.Ytdildmfjekdlgaa
open Go.RowKit
/-- A byte, as the integer that the model holds. -/
def w8 (x : UInt8) : Int := (x.toNat : Int)
theorem w8_lt (x : UInt8) : x.toNat < 256 := x.toNat_lt
/-- A byte as a cell. -/
def bv (x : UInt8) : Value := .int .u8 (w8 x)
def bytesV (l : List UInt8) : List Value := l.map bv
theorem bytesV_len (l : List UInt8) : (bytesV l).length = l.length := by simp [bytesV]
theorem bytesV_get (l : List UInt8) (i : Nat) (h : i < l.length) : (bytesV l)[i]? = some (bv (l.getD i 0)) := by simp [bytesV, h]
theorem bytesV_drop (l : List UInt8) (k : Nat) : (bytesV l).drop k = bytesV (l.drop k) := by simp [bytesV]
theorem bytesV_take (l : List UInt8) (k : Nat) : (bytesV l).take k = bytesV (l.take k) := by simp [bytesV]
/-- A list of bytes as a string. -/
def strOf (l : List UInt8) : ByteArray := ⟨l.toArray⟩
/-- An integer as a cell. -/
def iv (x : Int) : Value := .int .i64 x
def intsV (l : List Int) : List Value := l.map iv
theorem intsV_len (l : List Int) : (intsV l).length = l.length := by simp [intsV]
theorem intsV_app (l m : List Int) : intsV (l ++ m) = intsV l ++ intsV m := by simp [intsV]
theorem intsV_one (l : List Int) : ∀ u ∈ intsV l, u.oneCell' = true := by
  intro u hu; simp only [intsV, List.mem_map] at hu; obtain ⟨x, _, rfl⟩ := hu; rfl
theorem intsV_get (l : List Int) (i : Nat) (h : i < l.length) : (intsV l)[i]? = some (iv (l.getD i 0)) := by simp [intsV, h]
/-- Byte k of a number of 8 bytes in two's complement, the most significant first. -/
def be8At (v : Int) (k : Nat) : UInt8 := UInt8.ofNat (v / 2 ^ (56 - 8 * k) % 256).toNat
def be8To (v : Int) (k : Nat) : List UInt8 := (List.range k).map (be8At v)
def be8 (v : Int) : List UInt8 := be8To v 8
end Go.Proofs.Ytdildmfjekdlgaa
/- Slices as rows of cells: appended to, made, copied, cut, read as strings. Plain facts over any program. -/
namespace Go.Proofs.Ytdildmfjekdlgaa
open Go.RowKit
/-- A slice value that reads as the cells cs: n elements of sz cells each; nil and empty slices too. -/
structure Row (w : World) (A : Option Addr) (n c sz : Nat) (cs : List Value) : Prop where
  len : cs.length = n * sz
  cap : n ≤ c
  nil : A = none → n = 0 ∧ c = 0
  some_ : ∀ ad, A = some ad → 0 < c → ∃ b off, ad = ⟨b, off, none⟩ ∧ ∀ i, i < n * sz → w.cell? ⟨b, off + i, none⟩ = cs[i]?
theorem Row.form {w : World} {A : Option Addr} {n c sz : Nat} {cs : List Value} (h : Row w A n c sz cs) (hn : 0 < n) :
    ∃ b off, A = some ⟨b, off, none⟩ ∧ ∀ i, i < n * sz → w.cell? ⟨b, off + i, none⟩ = cs[i]? := by
  rcases hA : A with _ | ad
  · have := (h.nil hA).1; omega
  · obtain ⟨b, off, rfl, hc⟩ := h.some_ ad hA (by have := h.cap; omega)
    exact ⟨b, off, rfl, hc⟩
theorem Row.nilRow (w : World) (sz : Nat) : Row w none 0 0 sz [] := ⟨by simp, Nat.le_refl _, fun _ => ⟨rfl, rfl⟩, fun _ h _ => by cases h⟩
theorem Row.later {w w' : World} {A : Option Addr} {n c sz : Nat} {cs : List Value} (h : Row w A n c sz cs) (hb : Later w w') : Row w' A n c sz cs := by
  refine ⟨h.len, h.cap, h.nil, fun ad hA h0 => ?_⟩
  obtain ⟨b, off, rfl, hc⟩ := h.some_ ad hA h0
  refine ⟨b, off, rfl, fun i hi => ?_⟩
  have h1 := hc i hi
  rw [List.getElem?_eq_getElem (by rw [h.len]; exact hi)] at h1 ⊢
  rw [hb.cell (p := ⟨b, off + i, none⟩) (World.block_lt_of_cell? w _ h1)]; exact h1
/-- A row is as it was where its block is as it was. -/
theorem Row.keep {w w' : World} {A : Option Addr} {n c sz : Nat} {cs : List Value} (h : Row w A n c sz cs) (hk : ∀ ad, A = some ad → 0 < n → ad.block < w.heap.size → w'.heap[ad.block]? = w.heap[ad.block]?) : Row w' A n c sz cs := by
  refine ⟨h.len, h.cap, h.nil, fun ad hA h0 => ?_⟩
  obtain ⟨b, off, rfl, hc⟩ := h.some_ ad hA h0
  refine ⟨b, off, rfl, fun i hi => ?_⟩
  have h1 := hc i hi
  rw [List.getElem?_eq_getElem (by rw [h.len]; exact hi)] at h1 ⊢
  have h2 : b < w.heap.size := World.block_lt_of_cell? w (a := ⟨b, off + i, none⟩) h1
  have hn : 0 < n := by
    rcases Nat.eq_zero_or_pos n with e | e
    · rw [e, Nat.zero_mul] at hi; omega
    · exact e
  rw [World.cell?_of_block (w := w) (a := ⟨b, off + i, none⟩) (hk ⟨b, off, none⟩ hA hn h2)]; exact h1
theorem own_mono {w : World} {B B' : Nat} {e : TypeId} {sz : Nat} {v : Value} {n : Nat} {xs : List Value} (h : w.ownsRow B e sz v n xs) (hb : B' ≤ B) : w.ownsRow B' e sz v n xs :=
  ⟨h.1, h.2.imp id fun ⟨g, cap, cur, h1, h2, h3⟩ => ⟨g, cap, cur, h1, Nat.le_trans hb h2, h3⟩⟩
/-- What the call owns stays owned below blocks that turn. -/
theorem own_below {w w' : World} {B B' : Nat} {e : TypeId} {sz : Nat} {v : Value} {n : Nat} {xs : List Value} (h : w.ownsRow B e sz v n xs) (hb : Below B' w w') (hv : ∀ k, v.ownBlock = some k → k < B') : w'.ownsRow B e sz v n xs := by
  refine ⟨h.1, ?_⟩
  rcases h.2 with hn | ⟨g, cap, cur, rfl, hg, hgg, rest⟩
  · exact .inl hn
  · exact .inr ⟨g, cap, cur, rfl, hg, (hb.block g (hv g rfl)).trans hgg, rest⟩
theorem Row.lt {w : World} {A : Option Addr} {n c sz : Nat} {cs : List Value} (h : Row w A n c sz cs) (hz : 0 < sz) : ∀ ad, A = some ad → 0 < n → ad.block < w.heap.size := fun ad hA h0 => by
  obtain ⟨b, off, hA', hc⟩ := h.form h0
  rw [hA] at hA'; injection hA' with e; subst e
  have h1 := hc 0 (Nat.mul_pos h0 hz)
  rw [List.getElem?_eq_getElem (by rw [h.len]; exact Nat.mul_pos h0 hz)] at h1
  exact World.block_lt_of_cell? w _ h1
/-- An address, if it is one, lies in a block that was made between two worlds. -/
def New (w w' : World) (A : Option Addr) : Prop := ∀ ad, A = some ad → w.heap.size ≤ ad.block ∧ ad.block < w'.heap.size
theorem New.from {w0 w w' : World} {A : Option Addr} (h : New w w' A) (hs : w0.heap.size ≤ w.heap.size) : New w0 w' A := fun ad hA => ⟨Nat.le_trans hs (h ad hA).1, (h ad hA).2⟩
theorem Row.drew {w : World} {A : Option Addr} {n c sz : Nat} {cs : List Value} (h : Row w A n c sz cs) : Row w.drew A n c sz cs := h.later (Later.drew w)
theorem Row.below {w w' : World} {A : Option Addr} {n c sz B : Nat} {cs : List Value} (h : Row w A n c sz cs) (hb : Below B w w') (hB : w.heap.size ≤ B) : Row w' A n c sz cs := h.later (Below.mono hb hB)
theorem Row.of_own {w : World} {B : Nat} {e : TypeId} {sz : Nat} {v : Value} {n : Nat} {xs : List Value} (h : w.ownsRow B e sz v n xs) : ∃ A c, v = .slice A n c ∧ Row w A n c sz xs := by
  have hx := h
  rcases h.2 with ⟨rfl, rfl⟩ | ⟨g, cap, cur, rfl, hg, hgg, h1, h2, _⟩
  · have : xs = [] := List.eq_nil_of_length_eq_zero (by simpa using h.1)
    subst this
    exact ⟨none, 0, rfl, Row.nilRow w sz⟩
  · refine ⟨some ⟨g, 0, none⟩, cap, rfl, h.1, h1, fun e => (by cases e), fun ad e _ => ?_⟩
    injection e with e; subst e
    exact ⟨g, 0, rfl, fun i hi => by rw [Nat.zero_add]; exact World.ownsRow.cellAt hx i hi⟩
/-- The cells of a row that lies in a block that is known whole. -/
theorem Row.of_block {w : World} {g : Nat} {cs : Array Value} {t : TypeId} {fr : Nat × Nat} {n sz : Nat} (h : w.heap[g]? = some (.cells cs t fr)) (hn : cs.size = n * sz) : Row w (some ⟨g, 0, none⟩) n n sz cs.toList := by
  refine ⟨by simpa using hn, Nat.le_refl _, fun e => (by cases e), fun ad e _ => ?_⟩
  injection e with e; subst e
  exact ⟨g, 0, rfl, fun i _ => by rw [Nat.zero_add, cell_of_row _ _ _ _ _ _ h]; simp⟩
/-- One element of a row of elements of one cell. -/
theorem Row.cell {w : World} {b off n c : Nat} {cs : List Value} (h : Row w (some ⟨b, off, none⟩) n c 1 cs) (i : Nat) (hi : i < n) : w.cell? ⟨b, off + i, none⟩ = cs[i]? := by
  obtain ⟨b', off', e, hc⟩ := h.some_ _ rfl (by have := h.cap; omega)
  injection e with e1 e2; subst e1 e2
  exact hc i (by omega)
/-- The address of s[k:]. -/
def dropA (A : Option Addr) (c k sz : Nat) : Option Addr := if c = k then A else A.map (·.add (k * sz))
theorem Row.drop {w : World} {A : Option Addr} {n c sz : Nat} {cs : List Value} (h : Row w A n c sz cs) (k : Nat) (hk : k ≤ n) : Row w (dropA A c k sz) (n - k) (c - k) sz (cs.drop (k * sz)) := by
  have hcap := h.cap
  refine ⟨by rw [List.length_drop, h.len, Nat.sub_mul], by omega, fun hA => ?_, fun ad hA h0 => ?_⟩
  · unfold dropA at hA
    split at hA
    · have := h.nil hA; omega
    · rcases hA' : A with _ | a
      · have := h.nil hA'; omega
      · rw [hA'] at hA; cases hA
  · unfold dropA at hA
    split at hA
    · omega
    · rcases hA' : A with _ | a
      · rw [hA'] at hA; cases hA
      · rw [hA'] at hA
        obtain ⟨b, off, rfl, hcell⟩ := h.some_ a hA' (by omega)
        simp only [Option.map_some, Option.some.injEq] at hA
        subst hA
        refine ⟨b, off + k * sz, by rw [Addr.add_lit], fun i hi => ?_⟩
        rw [Nat.sub_mul] at hi
        rw [List.getElem?_drop, Nat.add_assoc]
        exact hcell _ (by omega)
theorem Row.take {w : World} {A : Option Addr} {n c sz : Nat} {cs : List Value} (h : Row w A n c sz cs) (k : Nat) (hk : k ≤ n) : Row w A k c sz (cs.take (k * sz)) := by
  have hcap := h.cap
  have hm : k * sz ≤ n * sz := Nat.mul_le_mul_right _ hk
  refine ⟨by rw [List.length_take, h.len]; omega, by omega, fun hA => ?_, fun ad hA h0 => ?_⟩
  · have := h.nil hA; omega
  · obtain ⟨b, off, rfl, hcell⟩ := h.some_ ad hA h0
    refine ⟨b, off, rfl, fun i hi => ?_⟩
    rw [List.getElem?_take, if_pos hi]; exact hcell i (by omega)
section
variable {P : Program}
theorem Row.src {w : World} {A : Option Addr} {n c sz : Nat} {cs : List Value} (h : Row w A n c sz cs) {t e : TypeId} (ht : P.underlying t = some (.slice e)) (h1 : ∀ u ∈ cs, u.oneCell' = true) : Src P sz t (.slice A n c) n cs w := by
  rcases hA : A with _ | ad
  · obtain ⟨rfl, rfl⟩ := h.nil hA
    have : cs = [] := List.eq_nil_of_length_eq_zero (by simpa using h.len)
    subst this
    exact Src.ofNil w ht 0
  · refine Src.ofSlice w ht _ n c cs h.len (fun j u hu => ?_) h1
    have hj : j < cs.length := by
      rcases Nat.lt_or_ge j cs.length with h1 | h1
      · exact h1
      · rw [List.getElem?_eq_none h1] at hu; cases hu
    have h0 : 0 < c := by
      have h2 := h.len
      rcases Nat.eq_zero_or_pos n with e | e
      · rw [e, Nat.zero_mul] at h2; omega
      · have := h.cap; omega
    obtain ⟨b, off, rfl, hc⟩ := h.some_ ad hA h0
    rw [Addr.add_lit, hc j (by rw [← h.len]; exact hj)]; exact hu
/-- append of whatever source onto a slice of the call's own. -/
theorem run_app (w : World) (base : Nat) (t tx ty e : TypeId) (i : TypeInfo) (z : Value) (size bytes : Nat) (ht : P.underlying t = some (.slice e)) (hi : P.info? e = some i) (hz : i.zero = some z)
    (hsize : i.size = size) (hby : i.bytes = bytes) (hzs : z.cells.size = size)
    (v : Value) (n : Nat) (xs : List Value) (hown : w.ownsRow base e size v n xs) (x : Value) (m : Nat) (news : List Value) (hs : Src P size tx x m news w)
    (h63 : n + m ≤ maxLen) (hbytes : (n + m) * bytes ≤ 140737488355328) (hbase : base ≤ w.heap.size) :
    ∃ v' w', (Builtin.append_ #[t, tx] ty #[v, x]).run P w = .ok v' w' ∧ w'.ownsRow base e size v' (n + m) (xs ++ news) ∧ w.grownBy w' v.ownBlock ∧ (v'.ownBlock = v.ownBlock ∨ v'.ownBlock = some w.heap.size) := by
  subst hsize
  subst hby
  have hsmall : n + m ≤ 9223372036854775807 := by simp only [maxLen] at h63; omega
  have hl := hs.newsLen
  have hlen : (xs ++ news).length = (n + m) * i.size := by rw [List.length_append, hown.1, hl, Nat.add_mul]
  have grown : ∀ (old : Nat), old < n + m → ∀ (row : Option Nat),
      (w.drew.alloc (.cells ((xs ++ news).toArray ++ Builtin.zeroCells z.cells (grownCap w (n + m) old e - (n + m))) e)).ownsRow base e i.size
        (.slice (some ⟨w.heap.size, 0, none⟩) (n + m) (grownCap w (n + m) old e)) (n + m) (xs ++ news) ∧
      w.grownBy (w.drew.alloc (.cells ((xs ++ news).toArray ++ Builtin.zeroCells z.cells (grownCap w (n + m) old e - (n + m))) e)) row := by
    intro old ho row
    have hge := grownCap_ge w (n + m) old e
    have hcm : grownCap w (n + m) old e ≤ maxLen := grownCap_le_maxLen w (n + m) old e h63
    refine ⟨⟨hlen, .inr ⟨w.heap.size, _, _, rfl, hbase, heap_alloc_new w.drew _, hge, hcm, ?_, ?_⟩⟩, ⟨rfl, rfl, rfl, by simp, fun k hk _ => Below.heap_alloc w.drew _ k hk⟩⟩
    · simp only [Array.size_append, List.size_toArray, size_zeroCells, hzs, hlen, ← Nat.add_mul]
      congr 1
      omega
    · simp only [Array.toList_append]
      rw [← hlen]
      exact List.take_left
  rcases hown.2 with ⟨rfl, rfl⟩ | ⟨g, cap, cur, rfl, hbg, hg, hnc, hcm, hcs, htake⟩
  · have hx : xs = [] := List.eq_nil_of_length_eq_zero (by simpa using hown.1)
    subst hx
    by_cases hm : m = 0
    · subst hm
      have hn : news = [] := List.eq_nil_of_length_eq_zero (by simpa using hl)
      subst hn
      refine ⟨.slice none 0 0, w, ?_, World.ownsRow_nil w base e i.size, ⟨rfl, rfl, rfl, Nat.le_refl _, fun _ _ _ => rfl⟩, .inl rfl⟩
      have hc := hs.cells
      rcases hs.kind with ⟨e', hk⟩ | hk <;>
        simp [Builtin.append_, run_underlying ht, run_underlying hk, sizeOf, typeInfo, hi, hs.len, hc]
    · have hr := run_append_grow_src (P := P) w t tx ty e i z ht hi hz none 0 0 [] (by simp [Builtin.firstCells]) x m news hs (by omega) (by omega) (growslice_fits (need := 0 + m) (old := 0) (bytes := i.bytes) (by omega) hbytes)
      have hgr := grown 0 (by omega) (Value.ownBlock (.slice none 0 0))
      simp only [Nat.zero_add, List.nil_append] at hgr hr ⊢
      exact ⟨_, _, hr, hgr.1, hgr.2, .inr rfl⟩
  · by_cases hroom : n + m ≤ cap
    · have hfit : n * i.size + news.length ≤ cur.size := by rw [hl, hcs, ← Nat.add_mul]; exact Nat.mul_le_mul_right _ hroom
      have hst := run_storeCells_at P g (n * i.size) e news 0 cur w hg (by simpa using hfit) hs.one
      refine ⟨.slice (some ⟨g, 0, none⟩) (n + m) cap, w.setRow g (cur.toList.take (n * i.size) ++ news ++ cur.toList.drop (n * i.size + news.length)).toArray, ?_, ⟨hlen, .inr ⟨g, cap, _, rfl, hbg, setRow_heap w g cur _ e _ hg, hroom, hcm, ?_, ?_⟩⟩, ⟨rfl, rfl, rfl, by simp, fun k _ hk => setRow_other w g k _ (fun e => hk (by simp [Value.ownBlock, e]))⟩, .inl rfl⟩
      · simp only [Nat.add_zero] at hst
        rcases hs.kind with ⟨e', hk⟩ | hk <;> simp [Builtin.append_, run_underlying ht, run_underlying hk, sizeOf, typeInfo, hi, hs.len, hroom, hs.cells, Addr.add_lit, hst]
      · simp only [List.size_toArray, List.length_append, List.length_take, List.length_drop, Array.length_toList]
        omega
      · rw [htake, ← hlen]
        exact List.take_left
    · have holds : ∀ j u, xs[j]? = some u → w.cell? ((⟨g, 0, none⟩ : Addr).add j) = some u := hown.cells (g := g) rfl
      have hold := run_firstCells_some (P := P) w.drew i.size n ⟨g, 0, none⟩ n cap xs hown.1 (by simpa using holds)
      have hr := run_append_grow_src (P := P) w t tx ty e i z ht hi hz (some ⟨g, 0, none⟩) n cap xs hold x m news hs (by omega) (by omega) (growslice_fits (by omega) hbytes)
      have hgr := grown cap (by omega) (Value.ownBlock (.slice (some ⟨g, 0, none⟩) n cap))
      exact ⟨_, _, hr, hgr.1, hgr.2, .inr rfl⟩

variable {ops : Array Oper} {rest : List Oper} {o : Oper} {a : Act} {Q : Exit → Act → World → Prop}
/-- append of whatever source onto a slice of the call's own, in a walk. -/
theorem wpList_app (w : World) (hgd : o.guard = none) (s x : Operand) (t tx e : TypeId) (ho : o.op = .call { callee := .builtin .append, args := #[s, x], argTypes := #[t, tx] })
    (base : Nat) (ht : P.underlying t = some (.slice e)) {z : Value} {size bytes : Nat} (hi : (P.info? e).map (fun i => (i.zero, i.size, i.bytes)) = some (some z, size, bytes)) (hzs : z.cells.size = size)
    (v : Value) (n : Nat) (xs : List Value) (hown : w.ownsRow base e size v n xs) (hs : a.eval s = v) (X : Value) (m : Nat) (news : List Value) (hsrc : Src P size tx X m news w) (hx : a.eval x = X)
    (h63 : n + m ≤ maxLen) (hbytes : (n + m) * bytes ≤ 140737488355328) (hbase : base ≤ w.heap.size)
    (h : ∀ v' w', w'.ownsRow base e size v' (n + m) (xs ++ news) → Below base w w' → wpList P ops Q rest (a.put o.dst v') w') : wpList P ops Q (o :: rest) a w := by
  obtain ⟨i0, hi0, hz0, hz1, hz2⟩ := info_parts hi
  obtain ⟨v', w', hr, h2, h3, _⟩ := run_app w base t tx o.type e i0 z size bytes ht hi0 hz0 hz1 hz2 hzs v n xs hown X m news hsrc h63 hbytes hbase
  refine wpList_plain hgd fun K hK => ?_
  unfold Oper.wp execOp
  simp only [ho, resolve, invoke, builtin, Sem.run_bind, Sem.run_pure, Result.andThen_ok, List.map_toArray, List.map_cons, List.map_nil, hs, hx, hr]
  exact hK _ _ (h v' w' h2 ((Below.refl base w).grown h3 hbase (fun k hk => (World.ownsRow.lt hown k hk).1)))
/-- An operation that is wanted. -/
theorem wpList_want {w : World} (hw : Region.wanted o (yielded ops a.tmps) = true) (h : ∀ K : Act → World → Prop, (∀ a w, wpList P ops Q rest a w → K a w) → o.wp P a w K Q) : wpList P ops Q (o :: rest) a w := by
  unfold wpList; rw [if_pos hw]; exact .inl (h _ (fun _ _ h => h))
/-- append of cells that a new block holds. -/
theorem wpList_app_new (wr : World) (hgd : o.guard = none) (s x : Operand) (t e : TypeId) (ho : o.op = .call { callee := .builtin .append, args := #[s, x], argTypes := #[t, t] })
    (base : Nat) (ht : P.underlying t = some (.slice e)) {z : Value} {size bytes : Nat} (hi : (P.info? e).map (fun i => (i.zero, i.size, i.bytes)) = some (some z, size, bytes)) (hzs : z.cells.size = size)
    (v : Value) (n : Nat) (xs : List Value) (hown : wr.ownsRow base e size v n xs) (hs : a.eval s = v) (m : Nat) (cs : Array Value) (hm : cs.size = m * size) (h1 : ∀ u ∈ cs.toList, u.oneCell' = true)
    (hx : a.eval x = .slice (some ⟨wr.heap.size, 0, none⟩) m m) {w0 : World} {fr : Nat × Nat} (hw0 : w0 = wr.alloc (.cells cs e fr))
    (h63 : n + m ≤ maxLen) (hbytes : (n + m) * bytes ≤ 140737488355328) (hbase : base ≤ wr.heap.size)
    (h : ∀ v' w', w'.ownsRow base e size v' (n + m) (xs ++ cs.toList) → Below base wr w' → wpList P ops Q rest (a.put o.dst v') w') : wpList P ops Q (o :: rest) a w0 := by
  subst hw0
  refine wpList_app _ hgd s x t t e ho base ht hi hzs v n xs (World.ownsRow.alloc hown _) hs _ m cs.toList ((Row.of_block (heap_alloc_new _ _) hm).src ht h1) hx h63 hbytes (by simp; omega) fun v' w' h2 h3 => ?_
  exact h v' w' h2 (((Below.refl base wr).alloc hbase _).trans h3)
/-- The same, and what it leaves alone: all old blocks but the slice's own; and where the new slice lies. -/
theorem wpList_app_newK (wr : World) (hgd : o.guard = none) (s x : Operand) (t e : TypeId) (ho : o.op = .call { callee := .builtin .append, args := #[s, x], argTypes := #[t, t] })
    (base : Nat) (ht : P.underlying t = some (.slice e)) {z : Value} {size bytes : Nat} (hi : (P.info? e).map (fun i => (i.zero, i.size, i.bytes)) = some (some z, size, bytes)) (hzs : z.cells.size = size)
    (v : Value) (n : Nat) (xs : List Value) (hown : wr.ownsRow base e size v n xs) (hs : a.eval s = v) (m : Nat) (cs : Array Value) (hm : cs.size = m * size) (h1 : ∀ u ∈ cs.toList, u.oneCell' = true)
    (hx : a.eval x = .slice (some ⟨wr.heap.size, 0, none⟩) m m) {w0 : World} {fr : Nat × Nat} (hw0 : w0 = wr.alloc (.cells cs e fr))
    (h63 : n + m ≤ maxLen) (hbytes : (n + m) * bytes ≤ 140737488355328) (hbase : base ≤ wr.heap.size)
    (h : ∀ v' w', w'.ownsRow base e size v' (n + m) (xs ++ cs.toList) → Below base wr w' → (∀ k, k < wr.heap.size → v.ownBlock ≠ some k → w'.heap[k]? = wr.heap[k]?) → (v'.ownBlock = v.ownBlock ∨ ∃ k, wr.heap.size ≤ k ∧ v'.ownBlock = some k) → wpList P ops Q rest (a.put o.dst v') w') :
    wpList P ops Q (o :: rest) a w0 := by
  subst hw0
  obtain ⟨i0, hi0, hz0, hz1, hz2⟩ := info_parts hi
  obtain ⟨v', w', hr, h2, h3, h4⟩ := run_app (wr.alloc (.cells cs e fr)) base t t o.type e i0 z size bytes ht hi0 hz0 hz1 hz2 hzs v n xs (World.ownsRow.alloc hown _) _ m cs.toList ((Row.of_block (heap_alloc_new _ _) hm).src ht h1) h63 hbytes (by simp; omega)
  refine wpList_plain hgd fun K hK => ?_
  unfold Oper.wp execOp
  simp only [ho, resolve, invoke, builtin, Sem.run_bind, Sem.run_pure, Result.andThen_ok, List.map_toArray, List.map_cons, List.map_nil, hs, hx, hr]
  refine hK _ _ (h v' w' h2 ((((Below.refl base wr).alloc hbase _)).grown h3 (by simp; omega) (fun k hk => (World.ownsRow.lt hown k hk).1)) (fun k hk hne => ?_) (h4.imp id (fun e => ⟨_, by simp, e⟩)))
  rw [h3.block k (by simp; omega) (fun e => hne e.symm), Below.heap_alloc _ _ _ hk]
/-- make of n elements with room for c, elements of one cell. -/
theorem wpList_make (w : World) (hgd : o.guard = none) (l c : Operand) (t e : TypeId) (ho : o.op = Op.makeSlice t l c)
    (base : Nat) (ht : P.underlying t = some (.slice e)) {z : Value} {bytes : Nat} (hi : (P.info? e).map (fun i => (i.zero, i.size, i.bytes)) = some (some z, 1, bytes)) (hzs : z.cells = #[z])
    (n k : Nat) {kl kc : IntKind} {L C : Int} (hl : a.eval l = .int kl L) (hc : a.eval c = .int kc C) (hL : L = (n : Int)) (hC : C = (k : Int)) (hnk : n ≤ k) (hb : k * bytes ≤ 140737488355328) (h63 : k ≤ maxLen) (hbase : base ≤ w.heap.size)
    (h : ∀ w', w'.ownsRow base e 1 (.slice (some ⟨w.heap.size, 0, none⟩) n k) n (List.replicate n z) → Below w.heap.size w w' → wpList P ops Q rest (a.put o.dst (.slice (some ⟨w.heap.size, 0, none⟩) n k)) w') : wpList P ops Q (o :: rest) a w := by
  obtain ⟨i0, hi0, hz0, hz1, hz2⟩ := info_parts hi
  subst hL hC
  have h63' : (k : Int) ≤ 9223372036854775807 := by have := h63; unfold maxLen at this; omega
  have hb' : (i0.bytes : Int) * (k : Int) ≤ 281474976710656 := by
    have h : ((i0.bytes * k : Nat) : Int) ≤ 281474976710656 := by rw [hz2, Nat.mul_comm]; omega
    rwa [Int.natCast_mul] at h
  have hr := run_make (P := P) w t e i0 z ht hi0 hz0 kl kc n k (by omega) (by omega) hb' h63'
  simp only [Int.toNat_natCast, hz1, hzs, Nat.mul_one] at hr
  refine wpList_plain hgd fun K hK => ?_
  unfold Oper.wp
  simp [execOp, ho, hl, hc, hr, Result.andThen]
  refine hK _ _ (h _ ⟨by simp, .inr ⟨w.heap.size, k, _, rfl, hbase, heap_alloc_new _ _, hnk, h63, by rw [size_madeCells, Nat.mul_one], ?_⟩⟩ ((Below.refl _ _).alloc (Nat.le_refl _) _))
  rw [toList_madeCells_one, Nat.mul_one, List.take_replicate, Nat.min_eq_left hnk]
/-- 's[k:]', spelled under one name. -/
theorem run_slice_from {t e : TypeId} (ht : P.underlying t = some (.slice e)) {sz : Nat} (hz : (P.info? e).map (·.size) = some sz) {A : Option Addr} {n c k : Nat} {i : Int} (hi : i = (k : Int)) (hk : k ≤ n) (kk : IntKind) (w : World) :
    (Instr.slice t (.slice A n c) (some (.int kk i)) none none).run P w = .ok (.slice (dropA A c k sz) (n - k) (c - k)) w := by
  subst hi
  have h1 : (0 : Int) ≤ (k : Int) ∧ (k : Int) ≤ (n : Int) := by omega
  cases hq : P.info? e with
  | none => rw [hq] at hz; cases hz
  | some ie =>
    have hs : ie.size = sz := by rw [hq] at hz; simpa using hz
    unfold dropA
    simp [Instr.slice, run_underlying ht, Instr.sliceBounds, Instr.sliceBound, asIntOf, h1, sizeOf, typeInfo, hq, hs]
    intro h2; omega
/-- 's[:k]'. -/
theorem run_slice_to {t e : TypeId} (ht : P.underlying t = some (.slice e)) {sz : Nat} (hz : (P.info? e).map (·.size) = some sz) {w0 : World} {A : Option Addr} {n c k : Nat} {cs : List Value} (hrow : Row w0 A n c sz cs) {i : Int} (hi : i = (k : Int)) (hk : k ≤ n) (kk : IntKind) (w : World) :
    (Instr.slice t (.slice A n c) none (some (.int kk i)) none).run P w = .ok (.slice A k c) w := by
  subst hi
  cases hq : P.info? e with
  | none => rw [hq] at hz; cases hz
  | some ie =>
    have hkc : k ≤ c := Nat.le_trans hk hrow.cap
    have hA : Option.map (fun x : Addr => x.add 0) A = A := by
      rcases hA : A with _ | ad
      · rfl
      · simp [Addr.add]
    simp [Instr.slice, run_underlying ht, Instr.sliceBounds, Instr.sliceBound, asIntOf, sizeOf, typeInfo, hq, hkc, hA]
end
end Go.Proofs.Ytdildmfjekdlgaa
/- What the program says of the types of bytes and numbers. -/
namespace Go.Proofs.Ytdildmfjekdlgaa
theorem i64_info : (Try.prog.info? 3).map (fun i => (i.zero, i.size, i.bytes)) = some (some (.int .i64 0), 1, 8) := by kernel_rfl
theorem i64_size : (Try.prog.info? 3).map (·.size) = some 1 := by kernel_rfl
end Go.Proofs.Ytdildmfjekdlgaa
/- The walks of package wire: what appends. -/
namespace Go.Proofs.Ytdildmfjekdlgaa
open Go.RowKit
/-- A slice that reads as bytes. -/
def BRow (w : World) (A : Option Addr) (n c : Nat) (us : List UInt8) : Prop := Row w A n c 1 (bytesV us)
/-- A slice that reads as numbers. -/
def IRow (w : World) (A : Option Addr) (n c : Nat) (l : List Int) : Prop := Row w A n c 1 (intsV l)
theorem BRow.len {w : World} {A : Option Addr} {n c : Nat} {us : List UInt8} (h : BRow w A n c us) : us.length = n := by
  have := Row.len h; rw [bytesV_len] at this; simpa using this
theorem IRow.len {w : World} {A : Option Addr} {n c : Nat} {l : List Int} (h : IRow w A n c l) : l.length = n := by
  have := Row.len h; rw [intsV_len] at this; simpa using this
theorem BRow.later {w w' : World} {A : Option Addr} {n c : Nat} {us : List UInt8} (h : BRow w A n c us) (hb : Later w w') : BRow w' A n c us := Row.later h hb
theorem IRow.later {w w' : World} {A : Option Addr} {n c : Nat} {l : List Int} (h : IRow w A n c l) (hb : Later w w') : IRow w' A n c l := Row.later h hb
/-- Bytes in a slice that the call itself has made. -/
def BOwn (w : World) (B : Nat) (v : Value) (us : List UInt8) : Prop := w.ownsRow B 5 1 v us.length (bytesV us)
theorem BOwn.row {w : World} {B : Nat} {v : Value} {us : List UInt8} (h : BOwn w B v us) : ∃ A c, v = .slice A us.length c ∧ BRow w A us.length c us := Row.of_own h
end Go.Proofs.Ytdildmfjekdlgaa
/- Statements and pins as values of the program: plain facts. -/
namespace Go.Proofs.Ytdildmfjekdlgaa
open Go.RowKit
/-- A pin; a statement. -/
structure PinD where
  author : Int
  height : Int
  digest : ByteArray
structure Stm where
  author : Int
  number : Int
  prev : ByteArray
  time : Int
  kind : Int
  a : Int
  b : Int
  c : Int
  list : List Int
  pins : List PinD
  body : ByteArray
  key : Int
  dig : ByteArray
def pinC (p : PinD) : List Value := [.int .i64 p.author, .int .i64 p.height, .string p.digest]
def pinsC (l : List PinD) : List Value := l.flatMap pinC
theorem pinsC_len (l : List PinD) : (pinsC l).length = l.length * 3 := by
  induction l with
  | nil => rfl
  | cons p l ih => simp only [pinsC, List.flatMap_cons, List.length_append, List.length_cons] at ih ⊢; simp only [pinC, List.length_cons, List.length_nil]; omega
def noPin : PinD := ⟨0, 0, ⟨#[]⟩⟩
theorem pinsC_drop (l : List PinD) (k : Nat) : (pinsC l).drop (k * 3) = pinsC (l.drop k) := by
  induction l generalizing k with
  | nil => simp [pinsC]
  | cons p l ih =>
    cases k with
    | zero => simp
    | succ k =>
      rw [List.drop_succ_cons, ← ih k]
      simp only [pinsC, List.flatMap_cons, pinC]
      rw [show (k + 1) * 3 = k * 3 + 3 by omega]
      rfl
theorem pinsC_get (l : List PinD) (k : Nat) (h : k < l.length) :
    (pinsC l)[k * 3]? = some (.int .i64 (l.getD k noPin).author) ∧ (pinsC l)[k * 3 + 1]? = some (.int .i64 (l.getD k noPin).height) ∧ (pinsC l)[k * 3 + 2]? = some (.string (l.getD k noPin).digest) := by
  have h0 : ∀ j, (pinsC l)[k * 3 + j]? = (pinsC (l.drop k))[j]? := fun j => by rw [← pinsC_drop, List.getElem?_drop]
  have h1 : l.drop k = l.getD k noPin :: l.drop (k + 1) := by
    rw [List.drop_eq_getElem_cons h]; simp [h]
  have h2 := h0 0; have h3 := h0 1; have h4 := h0 2
  rw [h1] at h2 h3 h4
  exact ⟨h2, h3, h4⟩
/-- A slice that reads as pins. -/
def PRow (w : World) (A : Option Addr) (n c : Nat) (l : List PinD) : Prop := Row w A n c 3 (pinsC l)
theorem PRow.len {w : World} {A : Option Addr} {n c : Nat} {l : List PinD} (h : PRow w A n c l) : l.length = n := by
  have := Row.len h; rw [pinsC_len] at this; omega
theorem PRow.later {w w' : World} {A : Option Addr} {n c : Nat} {l : List PinD} (h : PRow w A n c l) (hb : Later w w') : PRow w' A n c l := Row.later h hb
/-- The cells of pin k. -/
theorem PRow.cells {w : World} {A : Option Addr} {n c : Nat} {l : List PinD} (h : PRow w A n c l) (k : Nat) (hk : k < n) :
    ∃ b off, A = some ⟨b, off, none⟩ ∧ w.cell? ⟨b, off + k * 3, none⟩ = some (.int .i64 (l.getD k noPin).author) ∧ w.cell? ⟨b, off + k * 3 + 1, none⟩ = some (.int .i64 (l.getD k noPin).height) ∧ w.cell? ⟨b, off + k * 3 + 2, none⟩ = some (.string (l.getD k noPin).digest) := by
  obtain ⟨b, off, hA, hc⟩ := Row.form h (by omega)
  have hl := h.len
  obtain ⟨h1, h2, h3⟩ := pinsC_get l k (by omega)
  exact ⟨b, off, hA, by rw [hc _ (by omega), h1], by rw [Nat.add_assoc, hc _ (by omega), h2], by rw [Nat.add_assoc, hc _ (by omega), h3]⟩
/-- A statement as a value: its lists lie where the slices say. -/
def stmV (s : Stm) (A : Option Addr) (n c : Nat) (B : Option Addr) (m k : Nat) : Value :=
  .agg #[.int .i64 s.author, .int .i64 s.number, .string s.prev, .int .i64 s.time, .int .i64 s.kind, .int .i64 s.a, .int .i64 s.b, .int .i64 s.c, .slice A n c, .slice B m k, .string s.body, .int .i64 s.key, .string s.dig]
/-- A value reads as a statement. -/
def StmAt (w : World) (v : Value) (s : Stm) : Prop := ∃ A n c B m k, v = stmV s A n c B m k ∧ IRow w A n c s.list ∧ PRow w B m k s.pins
theorem StmAt.later {w w' : World} {v : Value} {s : Stm} (h : StmAt w v s) (hb : Later w w') : StmAt w' v s := by
  obtain ⟨A, n, c, B, m, k, e, h1, h2⟩ := h
  exact ⟨A, n, c, B, m, k, e, h1.later hb, h2.later hb⟩
end Go.Proofs.Ytdildmfjekdlgaa
/- Equality of seals and pins as the program reckons it. -/
namespace Go.Proofs.Ytdildmfjekdlgaa
open Go.RowKit
end Go.Proofs.Ytdildmfjekdlgaa
/- The walks of package statement: Check and what it calls. -/
namespace Go.Proofs.Ytdildmfjekdlgaa
open Go.RowKit
/-- lo ≤ v ≤ hi. -/
def btw (v lo hi : Int) : Bool := decide (lo ≤ v) && decide (v ≤ hi)
def isKeyB (v : Int) : Bool := btw v 0 63
def isValueB (v : Int) : Bool := btw v 0 1099511627776
def isTrustB (v : Int) : Bool := btw v 1 3
def isKindB (v : Int) : Bool := isTrustB v || btw v 10 31
/-- What its kind asks of A, B and C. -/
def fitsB (s : Stm) : Bool :=
  if s.kind = 1 then isKeyB s.a && (s.a != s.author) && btw s.b 1 3 && btw s.c s.time 2147483648
  else if s.kind = 2 then btw s.a 0 199 && (s.b == 0) && (s.c == 0)
  else if s.kind = 3 then (s.a == 0) && (s.b == 0) && (s.c == 0) else true
/-- A function that makes memory of its own, and answers v. -/
def SaysL (v : Value) (w : World) (e : Ending) (w' : World) : Prop := e = .returned v ∧ Below w.heap.size w w'
theorem one_new (w : World) (o : Obj) : Below w.heap.size w (w.alloc o) := (Below.refl _ _).alloc (Nat.le_refl _) _
/-- Whether Prev is as it has to be. -/
def prevB (s : Stm) : Bool := if s.number = 0 then decide (s.prev.size = 0) else ((s.prev.size : Int) == 32)
end Go.Proofs.Ytdildmfjekdlgaa
/- The walk of statement.arePins. -/
namespace Go.Proofs.Ytdildmfjekdlgaa
open Go.RowKit
/-- Whether pin i is as it has to be. -/
def pinB (l : List PinD) (i : Nat) : Bool :=
  isKeyB (l.getD i noPin).author && btw (l.getD i noPin).height 1 200 && (((l.getD i noPin).digest.size : Int) == 32) && (i == 0 || decide ((l.getD (i - 1) noPin).author < (l.getD i noPin).author))
def pinsB (l : List PinD) : Bool := (List.range l.length).all (pinB l)
theorem all_no {f : Nat → Bool} {k n : Nat} (hk : k < n) (h : f k = false) : (List.range n).all f = false := by
  rw [List.all_eq_false]; exact ⟨k, List.mem_range.2 hk, by simp [h]⟩
theorem all_more {f : Nat → Bool} {k : Nat} (h : (List.range k).all f = true) (h1 : f k = true) : (List.range (k + 1)).all f = true := by
  rw [List.range_succ, List.all_append, h]; simp [h1]
theorem below_nq {B : Nat} {a w : World} (h : Below B a w) (n : Nat) : Below B a (w.drewN n) := ⟨h.os, h.tape, h.output, h.size, h.block⟩
end Go.Proofs.Ytdildmfjekdlgaa
/- The walks of statement.inRange, hasForm, Check. -/
namespace Go.Proofs.Ytdildmfjekdlgaa
open Go.RowKit
def listB' (l : List Int) : Bool := (List.range l.length).all fun i => isValueB (l.getD i 0)
/-- Whether all numbers are in their ranges. -/
def rangeB (s : Stm) : Bool := btw s.number 0 199 && isValueB s.a && isValueB s.b && isValueB s.c && listB' s.list && fitsB s
theorem IRow.cell {w : World} {A : Option Addr} {n c : Nat} {l : List Int} (h : IRow w A n c l) (k : Nat) (hk : k < n) : ∃ b off, A = some ⟨b, off, none⟩ ∧ w.cell? ⟨b, off + k, none⟩ = some (.int .i64 (l.getD k 0)) := by
  obtain ⟨b, off, hA, hc⟩ := Row.form h (by omega)
  have hl := h.len
  have := hc k (by omega)
  rw [intsV_get _ _ (by omega)] at this
  exact ⟨b, off, hA, this⟩
/-- Whether Prev and the pins are as they have to be, and nothing is there that its kind does not have. -/
def formB (s : Stm) : Bool :=
  if isTrustB s.kind && decide (0 < s.list.length + s.pins.length + s.body.size) then false else prevB s && pinsB s.pins
/-- What Check returns. -/
def checkV (s : Stm) : Int :=
  if isKeyB s.author = false then 4 else if isKindB s.kind = false then 5 else if btw s.time 0 2147483648 = false then 9 else if rangeB s = false then 2
  else if 64 < s.list.length ∨ 64 < s.pins.length ∨ 4096 < s.body.size then 3 else if formB s = false then 1 else 0
end Go.Proofs.Ytdildmfjekdlgaa
/- The walk of chain.isBehind. -/
namespace Go.Proofs.Ytdildmfjekdlgaa
open Go.RowKit
/-- b comes behind a, but for the digest. -/
def behindB (a b : Stm) : Bool := decide (b.author = a.author) && (decide (a.number < b.number) && (decide (b.number - 1 = a.number) && decide (a.time ≤ b.time)))
end Go.Proofs.Ytdildmfjekdlgaa
/- The walk of trustflowmade.Mod. -/
namespace Go.Proofs.Ytdildmfjekdlgaa
open Go.RowKit
def modF (n m : Int) : Int := if n.tmod m < 0 then n.tmod m + m else n.tmod m
theorem tmod_bd (n m : Int) (hm : 1 ≤ m) : -m < n.tmod m ∧ n.tmod m < m := by
  constructor
  · have := Int.lt_tmod_of_pos n (show 0 < m by omega); omega
  · exact Int.tmod_lt_of_pos n (by omega)
theorem modF_bd (n m : Int) (hm : 1 ≤ m) : 0 ≤ modF n m ∧ modF n m < m := by
  have h := tmod_bd n m hm
  unfold modF; split <;> omega
set_option maxHeartbeats 400000 in
theorem mod_any (n m : Int) (w : World) (hm : 1 ≤ m) (hm2 : m ≤ 1000000) : Calls Try.prog 31 #[.int .i64 n, .int .i64 m] w fun e w' => e = .returned (.int .i64 (modF n m)) ∧ w = w' := by
  have hb := tmod_bd n m hm
  by_cases h0 : n.tmod m < 0
  all_goals
    go_enter Try.func31, Try.ntmps31
    go_wp2
    go_ret
    exact ⟨by unfold modF; first | (rw [if_pos h0]; rfl) | (rw [if_neg (by omega)]; rfl), rfl⟩
end Go.Proofs.Ytdildmfjekdlgaa
/- The walks of trustflowmade's dice: Light, Roll, Next, Of. -/
namespace Go.Proofs.Ytdildmfjekdlgaa
open Go.RowKit
/-- Of what was there nothing has turned but block D. -/
structure But (D : Nat) (w w' : World) : Prop where
  os : w'.os = w.os
  tape : w'.tape = w.tape
  output : w'.output = w.output
  size : w.heap.size ≤ w'.heap.size
  block : ∀ k, k < w.heap.size → k ≠ D → w'.heap[k]? = w.heap[k]?
theorem But.refl (D : Nat) (w : World) : But D w w := ⟨rfl, rfl, rfl, Nat.le_refl _, fun _ _ _ => rfl⟩
theorem But.trans {D : Nat} {a b c : World} (h : But D a b) (k : But D b c) : But D a c :=
  ⟨k.os.trans h.os, k.tape.trans h.tape, k.output.trans h.output, Nat.le_trans h.size k.size, fun i hi hne => (k.block i (Nat.lt_of_lt_of_le hi h.size) hne).trans (h.block i hi hne)⟩
theorem But.of {D : Nat} {w w' : World} (h : Below w.heap.size w w') : But D w w' := ⟨h.os, h.tape, h.output, h.size, fun k hk _ => h.block k hk⟩
/-- Where block D is of the call's own. -/
theorem But.below {D B : Nat} {w w' : World} (h : But D w w') (hD : B ≤ D) (hB : B ≤ w.heap.size) : Below B w w' := ⟨h.os, h.tape, h.output, h.size, fun k hk => h.block k (by omega) (by omega)⟩
theorem But.set {D : Nat} (w : World) (o : Nat) (v : Value) : But D w (w.setCell ⟨D, o, none⟩ v) := ⟨rfl, rfl, rfl, by simp [World.setCell], fun k _ hne => Below.heap_setCell _ _ _ _ hne⟩
theorem below_dN (B : Nat) (w : World) (n : Nat) : Below B w (w.drewN n) := ⟨rfl, rfl, rfl, Nat.le_refl _, fun _ _ => rfl⟩
theorem But.drewN {D : Nat} (w : World) (n : Nat) : But D w (w.drewN n) := ⟨rfl, rfl, rfl, Nat.le_refl _, fun _ _ _ => rfl⟩
theorem Row.but {w w' : World} {A : Option Addr} {n c sz D : Nat} {cs : List Value} (h : Row w A n c sz cs) (hb : But D w w') (hs : ∀ ad, A = some ad → 0 < n → ad.block ≠ D) : Row w' A n c sz cs :=
  h.keep fun ad hA h0 hlt => hb.block _ hlt (hs ad hA h0)
theorem But.grow {D : Nat} {w w1 w2 : World} (h : But D w w1) (hb : Below w.heap.size w1 w2) : But D w w2 :=
  ⟨hb.os.trans h.os, hb.tape.trans h.tape, hb.output.trans h.output, Nat.le_trans h.size hb.size, fun k hk hne => (hb.block k hk).trans (h.block k hk hne)⟩
theorem own_but {w w' : World} {B D : Nat} {e : TypeId} {sz : Nat} {v : Value} {n : Nat} {xs : List Value} (h : w.ownsRow B e sz v n xs) (hb : But D w w') (hD : D < B) : w'.ownsRow B e sz v n xs := by
  refine ⟨h.1, ?_⟩
  rcases h.2 with hn | ⟨g, cap, cur, rfl, hg, hgg, rest⟩
  · exact .inl hn
  · exact .inr ⟨g, cap, cur, rfl, hg, (hb.block g (Array.getElem?_eq_some_iff.1 hgg).1 (by omega)).trans hgg, rest⟩
/-- Dice of the numbers t, k of which have been given out, lie in block D; the numbers lie below block L. -/
structure DiceAt (w : World) (L D : Nat) (t : List Int) (k : Nat) : Prop where
  here : ∃ A n c, w.heap[D]? = some (.cells #[.slice A n c, .int .i64 k] 52 (0, 0)) ∧ Row w A n c 1 (intsV t) ∧ (∀ ad, A = some ad → 0 < n → ad.block < L)
  low : L ≤ D
  le : k ≤ t.length
  few : t.length ≤ 1000000
theorem DiceAt.lt {w : World} {L D k : Nat} {t : List Int} (h : DiceAt w L D t k) : D < w.heap.size := by
  obtain ⟨A, n, c, h1, _⟩ := h.here; exact (Array.getElem?_eq_some_iff.1 h1).1
/-- It stays where nothing has turned up to block D. -/
theorem DiceAt.below {w w' : World} {L D B k : Nat} {t : List Int} (h : DiceAt w L D t k) (hb : Below B w w') (hD : D < B) : DiceAt w' L D t k := by
  obtain ⟨A, n, c, h1, h2, h3⟩ := h.here
  exact ⟨⟨A, n, c, (hb.block D hD).trans h1, h2.keep (fun ad hA h0 _ => hb.block _ (Nat.lt_trans (Nat.lt_of_lt_of_le (h3 ad hA h0) h.low) hD)), h3⟩, h.low, h.le, h.few⟩
theorem DiceAt.later {w w' : World} {L D k : Nat} {t : List Int} (h : DiceAt w L D t k) (hb : Later w w') : DiceAt w' L D t k := h.below hb h.lt
/-- It stays where nothing has turned but another block, not below L. -/
theorem DiceAt.but {w w' : World} {L D E k : Nat} {t : List Int} (h : DiceAt w L D t k) (hb : But E w w') (hne : D ≠ E) (hE : L ≤ E) : DiceAt w' L D t k := by
  obtain ⟨A, n, c, h1, h2, h3⟩ := h.here
  exact ⟨⟨A, n, c, (hb.block D h.lt hne).trans h1, h2.but hb (fun ad hA h0 => by have := h3 ad hA h0; omega), h3⟩, h.low, h.le, h.few⟩
/-- What the next number is, and how many have been given out then. -/
def diceV (t : List Int) (k : Nat) (m : Int) : Int := if k < t.length then modF (t.getD k 0) m else 0
def diceK (t : List Int) (k : Nat) : Nat := if k < t.length then k + 1 else k
theorem diceV_bd (t : List Int) (k : Nat) (m : Int) (hm : 1 ≤ m) : 0 ≤ diceV t k m ∧ diceV t k m < m := by
  unfold diceV; split
  · exact modF_bd _ _ hm
  · omega
set_option maxHeartbeats 1000000 in
theorem next_any (L D : Nat) (t : List Int) (k : Nat) (m : Int) (w : World) (h : DiceAt w L D t k) (hm : 1 ≤ m) (hm2 : m ≤ 1000000) :
    Calls Try.prog 16 #[.pointer (some ⟨D, 0, none⟩), .int .i64 m] w fun e w' => e = .returned (.int .i64 (diceV t k m)) ∧ DiceAt w' L D t (diceK t k) ∧ But D w w' := by
  obtain ⟨A, n, c, h1, h2, h3⟩ := h.here
  have hl := h2.len
  rw [intsV_len, Nat.mul_one] at hl
  have hk := h.le
  have hf := h.few
  have hc0 : w.cell? ⟨D, 0, none⟩ = some (.slice A n c) := by rw [cell_of_row _ _ _ _ _ _ h1]; rfl
  have hc1 : w.cell? ⟨D, 1, none⟩ = some (.int .i64 k) := by rw [cell_of_row _ _ _ _ _ _ h1]; rfl
  have hfz : w.frozen? ⟨D, 1, none⟩ = false := frozen_of_row _ _ _ _ _ h1
  by_cases hlt : k < n
  · obtain ⟨b, off, hA, hcell⟩ := h2.form (by omega)
    have hx := hcell k (by omega)
    rw [intsV_get _ _ (by omega)] at hx
    unfold iv at hx
    have hlow := h.low
    have hne : b ≠ D := Nat.ne_of_lt (Nat.lt_of_lt_of_le (h3 _ hA (by omega)) hlow)
    have HV : Hid (diceV t k m = modF (t.getD k 0) m) := by unfold Hid diceV; rw [if_pos (by omega)]
    have HK : Hid (diceK t k = k + 1) := by unfold Hid diceK; rw [if_pos (by omega)]
    have H2 := Lib.hid h2; have H3 := Lib.hid h3; have H := Lib.hid h; have H1 := Lib.hid h1
    subst hA
    have hkb : k ≤ 1000000 := by omega
    clear h h1 h2 h3 hcell hl hk hf
    generalize t.getD k 0 = x at hx HV
    go_enter Try.func16, Try.ntmps16
    go_wp2_with fail
    go_quiet (fail)
    go_wp2_with fail
    have hb : But D w ((w.drewN nq).setCell ⟨D, 1, none⟩ (.int .i64 ((k : Int) + 1))) := (But.drewN w nq).trans (But.set _ _ _)
    have g1 : ((w.drewN nq).setCell ⟨D, 1, none⟩ (.int .i64 ((k : Int) + 1))).heap[D]? = some (.cells #[.slice (some ⟨b, off, none⟩) n c, .int .i64 ((k : Int) + 1)] 52 (0, 0)) :=
      heap_setCell_same (w.drewN nq) D 1 #[.slice (some ⟨b, off, none⟩) n c, .int .i64 k] _ _ H1.out
    generalize (w.drewN nq).setCell ⟨D, 1, none⟩ (.int .i64 ((k : Int) + 1)) = w2 at hb g1 ⊢
    have hd : DiceAt w2 L D t (k + 1) := ⟨⟨_, n, c, by rw [g1]; rfl, H2.out.but hb (fun ad hA h0 => Nat.ne_of_lt (Nat.lt_of_lt_of_le (H3.out ad hA h0) hlow)), H3.out⟩, hlow, by have := H2.out.len; rw [intsV_len, Nat.mul_one] at this; omega, H.out.few⟩
    clear hc0 hc1 hfz
    have hc0 : w2.cell? ⟨D, 0, none⟩ = some (.slice (some ⟨b, off, none⟩) n c) := by rw [cell_of_row _ _ _ _ _ _ g1]; rfl
    have hc1 : w2.cell? ⟨D, 1, none⟩ = some (.int .i64 ((k : Int) + 1)) := by rw [cell_of_row _ _ _ _ _ _ g1]; rfl
    have hx2 : w2.cell? ⟨b, off + k, none⟩ = some (.int .i64 x) := by
      rw [World.cell?_of_block (w := w) (a := ⟨b, off + k, none⟩) (hb.block b (World.block_lt_of_cell? w (a := ⟨b, off + k, none⟩) hx) hne)]; exact hx
    have HB := Lib.hid hb; have HD := Lib.hid hd; clear hb hd g1 hx
    have h0 : (0 : Int) ≤ (k : Int) + 1 - 1 := by omega
    have h00 : (k : Int) + 1 - 1 < n := by omega
    have h000 : ((k : Int) + 1 - 1).toNat = k := by omega
    go_quiet ((go_at_call 31; exact Calls.quiet_of_same ((mod_any x m _ hm hm2).mono (fun _ _ ⟨h1, h2⟩ => ⟨h1, h2.symm⟩))))
    go_wp2
    go_ret
    exact ⟨by rw [HV.out]; rfl, by rw [HK.out]; exact HD.out.later (below_dN _ _ _), HB.out.trans (But.drewN _ _)⟩
  · have HV : Hid (diceV t k m = 0) := by unfold Hid diceV; rw [if_neg (by omega)]
    have HK : Hid (diceK t k = k) := by unfold Hid diceK; rw [if_neg (by omega)]
    have H := Lib.hid h
    have hge : n ≤ k := by omega
    clear h h1 h2 h3 hl hk hf hfz
    go_enter Try.func16, Try.ntmps16
    go_wp2_with fail
    go_quiet (fail)
    go_wp2
    go_ret
    exact ⟨by rw [HV.out]; rfl, by rw [HK.out]; exact H.out.later (below_dN _ _ _), But.drewN _ _⟩
theorem light_any (A : Option Addr) (n c : Nat) (w : World) : Calls Try.prog 7 #[.slice A n c] w fun e w' => e = .returned (.bool (decide (n ≤ 400))) ∧ w = w' := by
  go_enter Try.func7, Try.ntmps7
  go_wp2
  go_ret
  exact ⟨by simp; omega, rfl⟩
set_option maxHeartbeats 1000000 in
theorem roll_any (L : Nat) (A : Option Addr) (n c : Nat) (t : List Int) (w : World) (h : Row w A n c 1 (intsV t)) (hn : n ≤ 1000000) (hL : L ≤ w.heap.size) (hA : ∀ ad, A = some ad → 0 < n → ad.block < L) :
    Calls Try.prog 9 #[.slice A n c] w fun e w' => e = .returned (.pointer (some ⟨w.heap.size, 0, none⟩)) ∧ DiceAt w' L w.heap.size t 0 ∧ Below w.heap.size w w' := by
  have H := Lib.hid h; have hl := h.len; rw [intsV_len, Nat.mul_one] at hl; have HL := Lib.hid hl; have HA := Lib.hid hA; clear h hl hA
  go_enter Try.func9, Try.ntmps9
  go_wp2
  go_ret
  exact ⟨rfl, ⟨⟨A, n, c, heap_alloc_new _ _, H.out.later ((Below.refl _ _).alloc (Nat.le_refl _) _), HA.out⟩, hL, Nat.zero_le _, by rw [HL.out]; exact hn⟩, (Below.refl _ _).alloc (Nat.le_refl _) _⟩
end Go.Proofs.Ytdildmfjekdlgaa
