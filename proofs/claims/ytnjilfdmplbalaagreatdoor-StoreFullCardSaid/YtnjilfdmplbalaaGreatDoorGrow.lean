/- A region that draws its order, walked once in an order of the prover's: readers first, then one operation that may make memory, and so on. Plain facts over any program. -/
import Derived.OrdersHeld
import Derived.Deep.RegionHeld3
import Derived.BigQuiet
import Derived.Below
namespace Go.Proofs.YtnjilfdmplbalaaGreatDoor
open Go.RowKit Go

def isRead (o : Oper) : Bool :=
  match o.op with
  | .move _ | .assign _ | .pick .. | .binOp .. | .unOp .. | .convert .. | .slice .. | .fieldAddr .. | .field .. | .indexAddr .. | .index .. | .load .. | .extract .. | .lookup .. | .nilCheck _ => true
  | .call c => match c.callee with | .builtin .len => true | .builtin .cap => true | .builtin .min => true | .builtin .max => true | _ => false
  | _ => false

theorem andThen_value {r : Result Value} {n : Next} {w' : World} (h : (r.andThen fun x w => (Result.ok (Next.value x) w)) = .ok n w') : ∃ v, n = .value v := by
  cases r with
  | ok x w => simp only [Result.andThen_ok] at h; injection h with h1 h2; exact ⟨_, h1.symm⟩
  | halt x w => cases h
theorem run_v {P : Program} {s : Sem Value} {w w' : World} {n : Next} (h : (do pure (Next.value (← s)) : Sem Next).run P w = .ok n w') : ∃ v, n = .value v := by
  rw [Sem.run_bind] at h; exact andThen_value h
theorem run_nilDeref {P : Program} {w w' : World} {n : Next} (h : (runtimePanic .nilDeref : Sem Next).run P w = .ok n w') : False := by
  simp [runtimePanic, goPanic, program, Sem.run] at h

theorem andThen_some {α β : Type} {r : Result α} {f : α → World → Result β} {y : β} {w' : World} (h : r.andThen f = .ok y w') : ∃ x w, f x w = .ok y w' := by
  cases r with
  | ok x w => exact ⟨x, w, h⟩
  | halt x w => cases h
theorem read_value {P : Program} {o : Oper} (h : isRead o = true) {ρ : Operand → Value} {w w' : World} {n : Next} (hr : (execOp ρ o).run P w = .ok n w') : ∃ v, n = .value v := by
  obtain ⟨dst, op, t, pos, after, g⟩ := o
  cases op with
  | call c =>
    simp only [isRead] at h
    obtain ⟨cal, args, tys⟩ := c
    simp only [execOp, resolve] at hr
    split at h <;> first | cases h | skip
    all_goals (rename_i hc; simp only at hc; subst hc; simp only [Sem.run_bind, Sem.run_pure, Result.andThen_ok, invoke, builtin] at hr; exact andThen_value hr)
  | nilCheck x =>
    simp only [execOp] at hr
    split at hr
    · exact (run_nilDeref hr).elim
    · exact (run_nilDeref hr).elim
    · exact (run_nilDeref hr).elim
    · split at hr
      · exact (run_nilDeref hr).elim
      · rw [Sem.run_bind] at hr
        obtain ⟨p, w1, hr⟩ := andThen_some hr
        rw [Sem.run_bind] at hr
        obtain ⟨b, w2, hr⟩ := andThen_some hr
        split at hr
        · rw [Sem.run_bind] at hr; simp [unsupported] at hr
        · simp at hr; exact ⟨_, hr.1.symm⟩
      · simp at hr; exact ⟨_, hr.1.symm⟩
    · simp at hr; exact ⟨_, hr.1.symm⟩
  | pick c a b =>
    simp only [execOp] at hr
    rw [Sem.run_bind] at hr
    obtain ⟨b, w1, hr⟩ := andThen_some hr
    simp at hr; exact ⟨_, hr.1.symm⟩
  | move _ | assign _ => simp only [execOp, Sem.run_pure] at hr; injection hr with h1 _; exact ⟨_, h1.symm⟩
  | binOp _ _ _ _ _ | unOp _ _ _ | convert _ _ _ | slice _ _ _ _ _ | fieldAddr _ _ _ | field _ _ _ | indexAddr _ _ _ | index _ _ _ | load _ _ | extract _ _ | lookup _ _ _ _ => exact run_v hr
  | _ => cases h

/-- w' is a world that may come behind w: below the size of w's heap nothing has turned. -/
def Later (w w' : World) : Prop := Below w.heap.size w w'
theorem Later.refl (w : World) : Later w w := Below.refl _ _
theorem Later.trans {a b c : World} (h : Later a b) (k : Later b c) : Later a c := Below.trans h (k.mono h.size)
theorem Later.drew (w : World) : Later w w.drew := (Below.refl _ _).drew
open Classical in
/-- x, if x may come behind w; else w. -/
noncomputable def fut (F : World → World → Prop) (w x : World) : World := if F w x then x else w
def Futs (F : World → World → Prop) (w : World) : World → Prop := fun w' => ∃ x, w' = fut F w x
attribute [go_sem] Futs
theorem Futs.of {F : World → World → Prop} {w w' : World} (h : F w w') : Futs F w w' := ⟨w', by unfold fut; rw [if_pos h]⟩
theorem fut_ok {F : World → World → Prop} (hr : ∀ w, F w w) (w x : World) : F w (fut F w x) := by
  unfold fut; split
  · assumption
  · exact hr w
theorem Futs.to {F : World → World → Prop} (hr : ∀ w, F w w) {w w' : World} (h : Futs F w w') : F w w' := by
  obtain ⟨x, rfl⟩ := h; exact fut_ok hr w x
/-- What is asked at the end of a piece of a region; no other end is let in. -/
def pieceEnd (N : Act → World → Prop) : Exit → Act → World → Prop
  | .normal, a, w => N a w
  | _, _, _ => False
theorem pieceEnd_normal {N : Act → World → Prop} {a : Act} {w : World} (h : N a w) : pieceEnd N .normal a w := h
theorem pieceEnd_panic {N : Act → World → Prop} {c : List PanicEntry} {a : Act} {w : World} (h : pieceEnd N (.panic c) a w) : False := h

def noOper : Oper := { dst := none, op := .panic (.const undef), type := 0, pos := "", after := #[], guard := none }
def pick (l : List Oper) (i : Nat) : Oper := l.getD i noOper
section
variable {P : Program} {md : Region.Mode} {F : World → World → Prop}

/-- A region's operations in an order of the prover's, piece by piece: readers, then one operation that may make memory. -/
def wpGrow (P : Program) (ops : Array Oper) (F : World → World → Prop) (Q : Act → World → Prop) (last : List Oper) : List (List Oper × Oper) → Act → World → Prop
  | [], a, w => wpQuiet P ops (Futs F w) (fun a' => Q a' w) last a
  | (rs, e) :: more, a, w => wpQuiet P ops (Futs F w) (fun a' => wpList P ops (pieceEnd fun a'' w' => F w w' ∧ wpGrow P ops F Q last more a'' w') [e] a' w) rs a

def setAll : List Nat → Array Bool → Array Bool
  | [], l => l
  | i :: is, l => setAll is (l.setIfInBounds i true)
def readsB (md : Region.Mode) (ops : List Oper) : List Nat → Array Bool → Bool
  | [], _ => true
  | i :: is, l => (Region.ready md ops.toArray l).contains i && Region.free md ops.toArray l i && isRead (pick ops i) && decide (i < ops.length) && readsB md ops is (l.setIfInBounds i true)
/-- The order may be taken: each reader may come up, and is free; where an operation of the other kind comes up, no other one may. -/
def growB (md : Region.Mode) (ops : List Oper) (last : List Nat) : List (List Nat × Nat) → Array Bool → Bool
  | [], listed => readsB md ops last listed && (Region.ready md ops.toArray (setAll last listed)).isEmpty
  | (rs, e) :: more, listed => readsB md ops rs listed && (Region.ready md ops.toArray (setAll rs listed) == [e]) && decide (e < ops.length) && growB md ops last more ((setAll rs listed).setIfInBounds e true)
def growLen (last : List Nat) : List (List Nat × Nat) → Nat
  | [] => last.length
  | (rs, _) :: more => rs.length + (growLen last more + 1)

theorem pick_at {l : List Oper} {i : Nat} (h : i < l.length) : l.toArray[i]? = some (pick l i) := by
  simp [pick, h]
theorem quiet_yields {ops : Array Oper} {C : World → Prop} {o : Oper} {a : Act} {v : Value} (ho : isRead o = true) (hw : Region.wanted o (yielded ops a.tmps) = true) (h : ∀ w, C w → o.quietAt P a C w v) : YieldsIf P ops C o v a := by
  refine .inl ⟨hw, fun w hC => ?_⟩
  have h1 := h w hC
  unfold Oper.quietAt at h1
  cases hr : (execOp a.eval o).run P w with
  | halt x w' => rw [hr] at h1; exact h1.elim
  | ok n w' =>
    obtain ⟨u, rfl⟩ := read_value ho hr
    rw [hr] at h1
    obtain ⟨rfl, rfl⟩ := h1
    rfl
theorem wpAnyH_mono {ops : Array Oper} {Q : Exit → Act → World → Prop} {S S' : World → Prop} (hS : ∀ w, S' w → S w) : ∀ (fuel : Nat) (listed : Array Bool) (a : Act) (w : World), wpAnyH P md ops Q S' fuel listed a w → wpAnyH P md ops Q S fuel listed a w
  | 0, _, _, _, h => h
  | fuel + 1, _, _, _, h => ⟨h.1, fun i hi => wpOp_mono (fun a' w' h' => ⟨hS _ h'.1, wpAnyH_mono hS fuel _ a' w' h'.2⟩) (h.2 i hi)⟩
theorem wp_post {o : Oper} {a : Act} {w : World} {K : Act → World → Prop} {Q Q' : Exit → Act → World → Prop} (hp : ∀ c a w, Q (.panic c) a w → Q' (.panic c) a w) (hl : LetsOut Q → LetsOut Q') (h : o.wp P a w K Q) : o.wp P a w K Q' := by
  unfold Oper.wp at *
  generalize (execOp a.eval o).run P w = r at *
  cases r with
  | ok n w' =>
    cases n <;> simp only [Oper.upon] at h ⊢ <;>
      first
        | exact h
        | exact Calls.mono h (fun e w'' he => by cases e <;> first | exact he | exact hp _ _ _ he | exact hl he)
  | halt x w' => cases x <;> simp only [Oper.upon] at h ⊢; exact hp _ _ _ h
theorem wpAnyH_reads {l : List Oper} {Q0 : Exit → Act → World → Prop} {C : World → Prop} {w : World} (hs : Region.noSelect l.toArray = true) (hC : C w) {Qa : Act → Prop} {fuel : Nat} :
    ∀ (is : List Nat) (listed : Array Bool) (a : Act), readsB md l is listed = true → wpQuiet P l.toArray C Qa (is.map (pick l)) a →
      (∀ a', Qa a' → wpAnyH P md l.toArray (NoPanic Q0) C fuel (setAll is listed) a' w) → wpAnyH P md l.toArray (NoPanic Q0) C (is.length + fuel) listed a w
  | [], listed, a, _, h, hk => by rw [List.length_nil, Nat.zero_add]; exact hk a h
  | i :: is, listed, a, hB, h, hk => by
    simp only [readsB, Bool.and_eq_true, decide_eq_true_eq] at hB
    obtain ⟨⟨⟨⟨h1, h2⟩, h3⟩, h4⟩, h5⟩ := hB
    rw [show (i :: is).length + fuel = (is.length + fuel) + 1 by rw [List.length_cons]; omega]
    rw [List.map_cons] at h
    unfold wpQuiet at h
    split at h
    · rename_i hw
      obtain ⟨v, hv, hn⟩ := h
      exact wpAnyH_take (pick_at h4) hs h2 h1 (fun _ _ _ h => h) (quiet_yields h3 hw hv) hC (wpAnyH_reads hs hC is _ _ h5 hn hk)
    · rename_i hw
      exact wpAnyH_take (pick_at h4) hs h2 h1 (fun _ _ _ h => h) (.inr ⟨by simpa using hw, rfl⟩) hC (wpAnyH_reads hs hC is _ _ h5 h hk)
theorem wpAnyH_grow {l : List Oper} {Q : Exit → Act → World → Prop} (hr : ∀ w, F w w) (ht : ∀ a b c, F a b → F b c → F a c) (hs : Region.noSelect l.toArray = true) (last : List Nat) :
    ∀ (segs : List (List Nat × Nat)) (listed : Array Bool) (a : Act) (w : World), growB md l last segs listed = true →
      wpGrow P l.toArray F (fun a w => Q .normal a w) (last.map (pick l)) (segs.map fun s => (s.1.map (pick l), pick l s.2)) a w →
      wpAnyH P md l.toArray (NoPanic Q) (Futs F w) (growLen last segs) listed a w
  | [], listed, a, w, hB, h => by
    simp only [growB, Bool.and_eq_true, List.isEmpty_iff] at hB
    have := wpAnyH_reads (Q0 := Q) (fuel := 0) hs (Futs.of (hr w)) last listed a hB.1 h (fun a' ha' => ⟨hB.2, ha'⟩)
    exact this
  | (rs, e) :: more, listed, a, w, hB, h => by
    simp only [growB, Bool.and_eq_true, decide_eq_true_eq, beq_iff_eq] at hB
    obtain ⟨⟨⟨h1, h2⟩, h3⟩, h4⟩ := hB
    refine wpAnyH_reads hs (Futs.of (hr w)) rs listed a h1 h (fun a' ha' => ?_)
    refine wpAnyH_all h2 (by simp) (fun i hi => ?_)
    obtain rfl : i = e := by simpa using hi
    have hK : ∀ a'' w', (F w w' ∧ wpGrow P l.toArray F (fun a w => Q .normal a w) (last.map (pick l)) (more.map fun s => (s.1.map (pick l), pick l s.2)) a'' w') →
        Futs F w w' ∧ wpAnyH P md l.toArray (NoPanic Q) (Futs F w) (growLen last more) ((setAll rs listed).setIfInBounds i true) a'' w' := fun a'' w' ⟨hF, hg⟩ =>
      ⟨Futs.of hF, wpAnyH_mono (fun x hx => Futs.of (ht _ _ _ hF (hx.to hr))) _ _ _ _ (wpAnyH_grow hr ht hs last more _ a'' w' h4 hg)⟩
    unfold wpOp
    simp only [pick_at h3]
    unfold wpList at ha'
    split at ha'
    · rename_i hw
      rw [if_pos hw]
      rcases ha' with ha' | ⟨_, ⟨_, _, hx⟩⟩
      · refine .inl (wp_post (Q := pieceEnd _) (fun _ _ _ h => h.elim) (fun ⟨_, _, h⟩ => h.elim) (Oper.wp_mono (fun a'' w' h => hK a'' w' h) ha'))
      · exact hx.elim
    · rename_i hw
      rw [if_neg hw]
      exact hK _ _ ha'
/-- A REGION THAT DRAWS ITS ORDER: one walk, in an order of the prover's. -/
theorem wp_region_grow {l : List Oper} {id : Nat} {Q : Exit → Act → World → Prop} {a : Act} {w : World} (hm : P.follows .mixedOrders = true) (F : World → World → Prop) (hr : ∀ w, F w w) (ht : ∀ a b c, F a b → F b c → F a c)
    (last : List Nat) (segs : List (List Nat × Nat)) (hs : Region.noSelect l.toArray = true) (hn : growLen last segs = l.length) (hB : growB .any l last segs (Array.replicate l.length false) = true)
    (h : wpGrow P l.toArray F (fun a w => Q .normal a w) (last.map (pick l)) (segs.map fun s => (s.1.map (pick l), pick l s.2)) a w.drew) : (Code.region id l.toArray true).wp P Q a w := by
  refine wp_region_noPanic (wp_region_held hm (S := Futs F w.drew) ?_)
  rw [List.size_toArray, ← hn]
  have := wpAnyH_grow (md := .any) (Q := Q) hr ht hs last segs (Array.replicate l.length false) a w.drew hB h
  rw [hn]; rw [hn] at this; exact this
end

section
variable {P : Program} {ops : Array Oper} {F : World → World → Prop} {Q : Act → World → Prop} {last : List Oper}
theorem wpGrow_nil {a : Act} {w : World} (h : wpQuiet P ops (Futs F w) (fun a' => Q a' w) last a) : wpGrow P ops F Q last [] a w := h
theorem wpGrow_cons {rs : List Oper} {e : Oper} {more : List (List Oper × Oper)} {a : Act} {w : World} (h : wpQuiet P ops (Futs F w) (fun a' => wpList P ops (pieceEnd fun a'' w' => F w w' ∧ wpGrow P ops F Q last more a'' w') [e] a' w) rs a) : wpGrow P ops F Q last ((rs, e) :: more) a w := h
end
end Go.Proofs.YtnjilfdmplbalaaGreatDoor
