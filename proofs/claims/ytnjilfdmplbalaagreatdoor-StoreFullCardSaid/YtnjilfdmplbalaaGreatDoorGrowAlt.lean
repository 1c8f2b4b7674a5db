/- A region that draws its order, where two operations that may make memory come up together: both orders are walked. Plain facts over any program. -/
import Derived.Test.YtnjilfdmplbalaaGreatDoorGrow
namespace Go.Proofs.YtnjilfdmplbalaaGreatDoor
open Go.RowKit Go
section
variable {P : Program} {md : Region.Mode} {F : World → World → Prop}
theorem wpOp_piece {l : List Oper} {Q : Exit → Act → World → Prop} (hr : ∀ w, F w w) (ht : ∀ a b c, F a b → F b c → F a c) (hs : Region.noSelect l.toArray = true) (last : List Nat) (more : List (List Nat × Nat)) (listed : Array Bool) (e : Nat) (h3 : e < l.length)
    (h4 : growB md l last more listed = true) (a' : Act) (w : World)
    (ha' : wpList P l.toArray (pieceEnd fun a'' w' => F w w' ∧ wpGrow P l.toArray F (fun a w => Q .normal a w) (last.map (pick l)) (more.map fun s => (s.1.map (pick l), pick l s.2)) a'' w') [pick l e] a' w) :
    wpOp P l.toArray (NoPanic Q) e (fun a'' w' => Futs F w w' ∧ wpAnyH P md l.toArray (NoPanic Q) (Futs F w) (growLen last more) listed a'' w') a' w := by
  have hK : ∀ a'' w', (F w w' ∧ wpGrow P l.toArray F (fun a w => Q .normal a w) (last.map (pick l)) (more.map fun s => (s.1.map (pick l), pick l s.2)) a'' w') →
      Futs F w w' ∧ wpAnyH P md l.toArray (NoPanic Q) (Futs F w) (growLen last more) listed a'' w' := fun a'' w' ⟨hF, hg⟩ =>
    ⟨Futs.of hF, wpAnyH_mono (fun x hx => Futs.of (ht _ _ _ hF (hx.to hr))) _ _ _ _ (wpAnyH_grow hr ht hs last more _ a'' w' h4 hg)⟩
  unfold wpOp
  simp only [pick_at h3]
  unfold wpList at ha'
  split at ha'
  · rename_i hw
    rw [if_pos hw]
    rcases ha' with ha' | ⟨_, ⟨_, _, hx⟩⟩
    · refine .inl (wp_post (Q := pieceEnd _) (fun _ _ _ h => h.elim) (fun ⟨_, _, h⟩ => h.elim) (Oper.wp_mono (fun a'' w' h => hK a'' w' h) ha'))
    · exact hx.elim
  · rename_i hw
    rw [if_neg hw]
    exact hK _ _ ha'
/-- Both orders. -/
theorem wp_region_alt {l : List Oper} {id : Nat} {Q : Exit → Act → World → Prop} {a : Act} {w : World} (hm : P.follows .mixedOrders = true) (F : World → World → Prop) (hr : ∀ w, F w w) (ht : ∀ a b c, F a b → F b c → F a c)
    (rs : List Nat) (e1 e2 : Nat) (last1 : List Nat) (segs1 : List (List Nat × Nat)) (last2 : List Nat) (segs2 : List (List Nat × Nat)) (hs : Region.noSelect l.toArray = true)
    (hn1 : rs.length + (growLen last1 segs1 + 1) = l.length) (hn2 : growLen last2 segs2 = growLen last1 segs1)
    (hB : readsB .any l rs (Array.replicate l.length false) = true) (h2 : (Region.ready .any l.toArray (setAll rs (Array.replicate l.length false)) == [e1, e2]) = true) (h3 : e1 < l.length) (h4 : e2 < l.length)
    (hB1 : growB .any l last1 segs1 ((setAll rs (Array.replicate l.length false)).setIfInBounds e1 true) = true) (hB2 : growB .any l last2 segs2 ((setAll rs (Array.replicate l.length false)).setIfInBounds e2 true) = true)
    (h : wpQuiet P l.toArray (Futs F w.drew) (fun a' =>
      wpList P l.toArray (pieceEnd fun a'' w' => F w.drew w' ∧ wpGrow P l.toArray F (fun a w => Q .normal a w) (last1.map (pick l)) (segs1.map fun s => (s.1.map (pick l), pick l s.2)) a'' w') [pick l e1] a' w.drew ∧
      wpList P l.toArray (pieceEnd fun a'' w' => F w.drew w' ∧ wpGrow P l.toArray F (fun a w => Q .normal a w) (last2.map (pick l)) (segs2.map fun s => (s.1.map (pick l), pick l s.2)) a'' w') [pick l e2] a' w.drew) (rs.map (pick l)) a) :
    (Code.region id l.toArray true).wp P Q a w := by
  refine wp_region_noPanic (wp_region_held hm (S := Futs F w.drew) ?_)
  rw [List.size_toArray]
  have h2' : Region.ready .any l.toArray (setAll rs (Array.replicate l.length false)) = [e1, e2] := by simpa using h2
  have := wpAnyH_reads (P := P) (md := .any) (Q0 := Q) (C := Futs F w.drew) (w := w.drew) (fuel := growLen last1 segs1 + 1) hs (Futs.of (hr _)) rs (Array.replicate l.length false) a hB h (fun a' ha' => ?_)
  · rw [hn1] at this; exact this
  · refine wpAnyH_all h2' (by simp) (fun i hi => ?_)
    have hi' : i = e1 ∨ i = e2 := by simpa using hi
    rcases hi' with rfl | rfl
    · exact wpOp_piece hr ht hs last1 segs1 _ _ h3 hB1 a' w.drew ha'.1
    · have := wpOp_piece (md := .any) hr ht hs last2 segs2 _ _ h4 hB2 a' w.drew ha'.2
      rw [hn2] at this; exact this
end
end Go.Proofs.YtnjilfdmplbalaaGreatDoor
