/- A region that draws its order, walked step by step: readers, and at each fork all operations that may come up. Plain facts over any program. -/
import Derived.Test.YtnjilfdmplbalaaGreatDoorGrowAlt
namespace Go.Proofs.YtnjilfdmplbalaaGreatDoor
open Go.RowKit Go
section
variable {P : Program} {md : Region.Mode} {F : World → World → Prop}
theorem wpOp_of {l : List Oper} {Q : Exit → Act → World → Prop} {N R : Act → World → Prop} {e : Nat} (h3 : e < l.length) {a : Act} {w : World} (hK : ∀ a'' w', (F w w' ∧ N a'' w') → R a'' w')
    (ha : wpList P l.toArray (pieceEnd fun a'' w' => F w w' ∧ N a'' w') [pick l e] a w) : wpOp P l.toArray (NoPanic Q) e R a w := by
  unfold wpOp
  simp only [pick_at h3]
  unfold wpList at ha
  split at ha
  · rename_i hw
    rw [if_pos hw]
    rcases ha with ha | ⟨_, ⟨_, _, hx⟩⟩
    · refine .inl (wp_post (Q := pieceEnd _) (fun _ _ _ h => h.elim) (fun ⟨_, _, h⟩ => h.elim) (Oper.wp_mono (fun a'' w' h => hK a'' w' h) ha))
    · exact hx.elim
  · rename_i hw
    rw [if_neg hw]
    exact hK _ _ ha
/-- Readers come up and are taken. -/
theorem flow_reads {l : List Oper} {Q : Exit → Act → World → Prop} (hr : ∀ w, F w w) (hs : Region.noSelect l.toArray = true) {fuel : Nat} (is : List Nat) {listed : Array Bool} {a : Act} {w : World} (hB : readsB md l is listed = true)
    (h : wpQuiet P l.toArray (Futs F w) (fun a' => wpAnyH P md l.toArray (NoPanic Q) (Futs F w) fuel (setAll is listed) a' w) (is.map (pick l)) a) :
    wpAnyH P md l.toArray (NoPanic Q) (Futs F w) (is.length + fuel) listed a w :=
  wpAnyH_reads hs (Futs.of (hr w)) is listed a hB h (fun _ h => h)
/-- One operation, whichever comes up. -/
theorem flow_step {l : List Oper} {Q : Exit → Act → World → Prop} (ht : ∀ a b c, F a b → F b c → F a c) (hr : ∀ w, F w w) {fuel : Nat} (es : List Nat) {listed : Array Bool} {a : Act} {w : World} (h2 : (Region.ready md l.toArray listed == es) = true) (h0 : es ≠ []) (h3 : es.all (fun e => decide (e < l.length)) = true)
    (h : ∀ e ∈ es, wpList P l.toArray (pieceEnd fun a'' w' => F w w' ∧ wpAnyH P md l.toArray (NoPanic Q) (Futs F w') fuel (listed.setIfInBounds e true) a'' w') [pick l e] a w) :
    wpAnyH P md l.toArray (NoPanic Q) (Futs F w) (fuel + 1) listed a w := by
  have h2' : Region.ready md l.toArray listed = es := by simpa using h2
  refine wpAnyH_all h2' h0 (fun i hi => ?_)
  have hi3 : i < l.length := by simpa using List.all_eq_true.1 h3 i hi
  exact wpOp_of (F := F) hi3 (fun a'' w' ⟨hF, hg⟩ => ⟨Futs.of hF, wpAnyH_mono (fun x hx => Futs.of (ht _ _ _ hF (hx.to hr))) _ _ _ _ hg⟩) (h i hi)
theorem flow_one {l : List Oper} {Q : Exit → Act → World → Prop} (ht : ∀ a b c, F a b → F b c → F a c) (hr : ∀ w, F w w) {fuel : Nat} (e : Nat) {listed : Array Bool} {a : Act} {w : World} (h2 : (Region.ready md l.toArray listed == [e]) = true) (h3 : e < l.length)
    (h : wpList P l.toArray (pieceEnd fun a'' w' => F w w' ∧ wpAnyH P md l.toArray (NoPanic Q) (Futs F w') fuel (listed.setIfInBounds e true) a'' w') [pick l e] a w) :
    wpAnyH P md l.toArray (NoPanic Q) (Futs F w) (fuel + 1) listed a w :=
  flow_step ht hr [e] h2 (by simp) (by simpa using h3) (fun i hi => by
    have : i = e := by simpa using hi
    rw [this]; exact h)
theorem flow_two {l : List Oper} {Q : Exit → Act → World → Prop} (ht : ∀ a b c, F a b → F b c → F a c) (hr : ∀ w, F w w) {fuel : Nat} (e1 e2 : Nat) {listed : Array Bool} {a : Act} {w : World} (h2 : (Region.ready md l.toArray listed == [e1, e2]) = true) (h3 : e1 < l.length) (h4 : e2 < l.length)
    (h : wpList P l.toArray (pieceEnd fun a'' w' => F w w' ∧ wpAnyH P md l.toArray (NoPanic Q) (Futs F w') fuel (listed.setIfInBounds e1 true) a'' w') [pick l e1] a w)
    (h' : wpList P l.toArray (pieceEnd fun a'' w' => F w w' ∧ wpAnyH P md l.toArray (NoPanic Q) (Futs F w') fuel (listed.setIfInBounds e2 true) a'' w') [pick l e2] a w) :
    wpAnyH P md l.toArray (NoPanic Q) (Futs F w) (fuel + 1) listed a w :=
  flow_step ht hr [e1, e2] h2 (by simp) (by simp [h3, h4]) (fun i hi => by
    have : i = e1 ∨ i = e2 := by simpa using hi
    rcases this with rfl | rfl
    · exact h
    · exact h')
theorem flow_done {l : List Oper} {Q : Exit → Act → World → Prop} {listed : Array Bool} {a : Act} {w : World} (h2 : (Region.ready md l.toArray listed).isEmpty = true) (h : Q .normal a w) :
    wpAnyH P md l.toArray (NoPanic Q) (Futs F w) 0 listed a w := ⟨by simpa using h2, h⟩
theorem wp_region_flow {l : List Oper} {id : Nat} {Q : Exit → Act → World → Prop} {a : Act} {w : World} (hm : P.follows .mixedOrders = true) (F : World → World → Prop)
    (h : wpAnyH P .any l.toArray (NoPanic Q) (Futs F w.drew) l.length (Array.replicate l.length false) a w.drew) : (Code.region id l.toArray true).wp P Q a w := by
  refine wp_region_noPanic (wp_region_held hm (S := Futs F w.drew) ?_)
  rw [List.size_toArray]
  exact h
end
end Go.Proofs.YtnjilfdmplbalaaGreatDoor
