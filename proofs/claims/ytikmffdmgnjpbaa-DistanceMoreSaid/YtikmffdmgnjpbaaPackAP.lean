import Derived.Test.YtikmffdmgnjpbaaPackAN
import Derived.Test.YtikmffdmgnjpbaaGGraphP
import Derived.Test.YtikmffdmgnjpbaaPackAK
import Derived.Test.YtikmffdmgnjpbaaPackAB
import Derived.Lib.Bytealg
import Derived.Lib.Small
import Derived.Test.YtikmffdmgnjpbaaPackAM
/- Plain facts on how many edges leave and come. -/
namespace Go.Proofs.Ytikmffdmgnjpbaa
open Go.RowKit
theorem Good11.keys {G : Gr} (h : Good11 G) : (∀ e ∈ G.es, 0 ≤ e.fr ∧ e.fr < G.sz) ∧ (∀ e ∈ G.es, 0 ≤ e.tu ∧ e.tu < G.sz) := by
  have hk : ∀ e ∈ G.es, (0 ≤ e.fr ∧ e.fr < G.sz) ∧ (0 ≤ e.tu ∧ e.tu < G.sz) := fun e he => by
    have h1 := h.ends e he
    unfold endsB keyB at h1
    rw [Bool.and_eq_true, Bool.and_eq_true, Bool.and_eq_true, Bool.and_eq_true, decide_eq_true_eq, decide_eq_true_eq, decide_eq_true_eq, decide_eq_true_eq] at h1
    exact ⟨h1.1, h1.2.1⟩
  exact ⟨fun e he => (hk e he).1, fun e he => (hk e he).2⟩
theorem GOwn.but {D : Nat} {w w' : World} {B : Nat} {G : Gr} {v : Value} (h : GOwn w B G v) (hb : But D w w') (hD : D < B) : GOwn w' B G v := by
  obtain ⟨e, g, rfl, h1, h2⟩ := h
  exact ⟨e, g, rfl, own_keepL h1 fun q hq => hb.block q (own_lt h1 q hq) (by have := own_ge h1 q hq; omega), own_keepL h2 fun q hq => hb.block q (own_lt h2 q hq) (by have := own_ge h2 q hq; omega)⟩
end Go.Proofs.Ytikmffdmgnjpbaa
/- Distances: the reference's way: what is marked, what is picked. Plain facts. -/
namespace Go.Proofs.Ytikmffdmgnjpbaa
open Go.RowKit
def onAt (on : List Bool) (k : Int) : Bool := on.getD k.toNat false
def markD (d : List Int) (n : Int) (on : List Bool) (e : Edg) : List Bool := if onAt on e.tu = true ∧ dAt d e.tu = n ∧ dAt d e.fr = n - 1 then on.set e.fr.toNat true else on
def marksD (d : List Int) (es : List Edg) : Nat → List Bool → List Bool
  | 0, on => on
  | n + 1, on => marksD d es n (es.foldl (markD d ((n : Int) + 1)) on)
/-- What lies on a shortest way to a key. -/
inductive Rch (d : List Int) (es : List Edg) (key : Int) : Int → Prop
  | here : Rch d es key key
  | back {e : Edg} (h : e ∈ es) (hr : Rch d es key e.tu) (hd : dAt d e.fr = dAt d e.tu - 1) (h0 : 0 ≤ dAt d e.fr) : Rch d es key e.fr
theorem Rch.le {d : List Int} {es : List Edg} {key k : Int} (h : Rch d es key k) : dAt d k ≤ dAt d key ∧ (dAt d k = dAt d key → k = key) := by
  induction h with
  | here => exact ⟨Int.le_refl _, fun _ => rfl⟩
  | back h hr hd h0 ih => exact ⟨by have := ih.1; omega, fun q => by have := ih.1; omega⟩
theorem Rch.step {d : List Int} {es : List Edg} {key k : Int} (h : Rch d es key k) (hlt : dAt d k < dAt d key) : ∃ e ∈ es, e.fr = k ∧ Rch d es key e.tu ∧ dAt d e.tu = dAt d k + 1 := by
  cases h with
  | here => omega
  | back h hr hd h0 => exact ⟨_, h, rfl, hr, by omega⟩
theorem onAt_set {on : List Bool} {t : Int} (ht : t.toNat < on.length) (k : Int) : onAt (on.set t.toNat true) k = if t.toNat = k.toNat then true else onAt on k := by
  unfold onAt
  rw [List.getD_eq_getElem?_getD, List.getElem?_set, List.getD_eq_getElem?_getD]
  split
  · first | (rw [if_pos ht]; rfl) | rfl
  · rfl
/-- What one level's marks keep. -/
structure OnD (d : List Int) (es : List Edg) (z : Nat) (key : Int) (on : List Bool) : Prop where
  len : on.length = z
  only : ∀ k : Int, 0 ≤ k → k < z → onAt on k = true → Rch d es key k
theorem mark_fold {d : List Int} {es : List Edg} {z : Nat} {key n : Int} (hn : 1 ≤ n) (hz : ∀ e ∈ es, InZ z e) : ∀ (q : List Edg) (on : List Bool), (∀ e ∈ q, e ∈ es) → OnD d es z key on →
    OnD d es z key (q.foldl (markD d n) on) ∧ (∀ k : Int, onAt on k = true → onAt (q.foldl (markD d n) on) k = true) ∧ (∀ e ∈ q, onAt on e.tu = true → dAt d e.tu = n → dAt d e.fr = n - 1 → onAt (q.foldl (markD d n) on) e.fr = true)
  | [], on, _, h => ⟨h, fun _ q => q, fun _ q => nomatch q⟩
  | e :: q, on, hq, h => by
    have he := hq e (List.mem_cons_self ..)
    obtain ⟨f0, f1, t0, t1⟩ := hz e he
    have hs : OnD d es z key (markD d n on e) ∧ (∀ k : Int, onAt on k = true → onAt (markD d n on e) k = true) ∧ (onAt on e.tu = true → dAt d e.tu = n → dAt d e.fr = n - 1 → onAt (markD d n on e) e.fr = true) := by
      unfold markD
      split
      · rename_i hc
        have hl : e.fr.toNat < on.length := by rw [h.len]; omega
        refine ⟨⟨by rw [List.length_set]; exact h.len, fun k h0 hk ho => ?_⟩, fun k ho => ?_, fun _ _ _ => ?_⟩
        · rw [onAt_set hl] at ho
          split at ho
          · rename_i hh
            have hk2 : k = e.fr := by omega
            rw [hk2]
            exact .back he (h.only e.tu t0 t1 hc.1) (by rw [hc.2.1, hc.2.2]) (by rw [hc.2.2]; omega)
          · exact h.only k h0 hk ho
        · rw [onAt_set hl]
          split
          · rfl
          · exact ho
        · rw [onAt_set hl, if_pos rfl]
      · rename_i hc
        exact ⟨h, fun k ho => ho, fun a b c => absurd ⟨a, b, c⟩ hc⟩
    obtain ⟨h1, h2, h3⟩ := mark_fold hn hz q (markD d n on e) (fun x hx => hq x (List.mem_cons_of_mem _ hx)) hs.1
    rw [List.foldl_cons]
    refine ⟨h1, fun k ho => h2 k (hs.2.1 k ho), fun x hx a b c => ?_⟩
    rcases List.mem_cons.1 hx with rfl | hx
    · exact h2 _ (hs.2.2 a b c)
    · exact h3 x hx (hs.2.1 _ a) b c
theorem marks_all {d : List Int} {es : List Edg} {z : Nat} {key : Int} (hz : ∀ e ∈ es, InZ z e) : ∀ (n : Nat) (on : List Bool), OnD d es z key on → (∀ k : Int, Rch d es key k → (n : Int) ≤ dAt d k → onAt on k = true) → (n : Int) ≤ dAt d key →
    OnD d es z key (marksD d es n on) ∧ ∀ k : Int, Rch d es key k → 0 ≤ dAt d k → onAt (marksD d es n on) k = true
  | 0, on, h, ha, _ => ⟨h, fun k hr h0 => ha k hr (by simpa using h0)⟩
  | n + 1, on, h, ha, hk => by
    unfold marksD
    obtain ⟨h1, h2, h3⟩ := mark_fold (n := (n : Int) + 1) (by omega) hz es on (fun _ q => q) h
    refine marks_all hz n _ h1 (fun k hr hn => ?_) (by omega)
    rcases Int.lt_or_le (dAt d k) ((n : Int) + 1) with h4 | h4
    · have h5 : dAt d k = (n : Int) := by omega
      obtain ⟨e, he, hf, ht, hd⟩ := hr.step (by omega)
      have h6 := ha e.tu ht (by omega)
      have h7 := h3 e he h6 (by omega) (by rw [hf]; omega)
      rwa [hf] at h7
    · exact h2 k (ha k hr (by omega))
/-- The marks at the start: the key alone. -/
def on0 (z : Nat) (key : Int) : List Bool := (List.replicate z false).set key.toNat true
theorem on0_at {z : Nat} {key : Int} (h0 : 0 ≤ key) (hk : key < z) {k : Int} (hk0 : 0 ≤ k) : onAt (on0 z key) k = decide (k = key) := by
  unfold on0
  rw [onAt_set (by rw [List.length_replicate]; omega)]
  by_cases h : k = key
  · rw [if_pos (by rw [h]), decide_eq_true h]
  · rw [if_neg (by omega), decide_eq_false h]
    unfold onAt
    rw [List.getD_eq_getElem?_getD, List.getElem?_replicate]
    split <;> rfl
def marked (d : List Int) (es : List Edg) (z : Nat) (key : Int) : List Bool := marksD d es (dAt d key).toNat (on0 z key)
theorem marked_iff {d : List Int} {es : List Edg} {z : Nat} {key : Int} (hz : ∀ e ∈ es, InZ z e) (h0 : 0 ≤ key) (hk : key < z) (hd : 0 ≤ dAt d key) : (marked d es z key).length = z ∧ (∀ k : Int, 0 ≤ k → k < z → onAt (marked d es z key) k = true → Rch d es key k) ∧ (∀ k : Int, Rch d es key k → 0 ≤ dAt d k → onAt (marked d es z key) k = true) := by
  have hs : OnD d es z key (on0 z key) := ⟨by unfold on0; rw [List.length_set, List.length_replicate], fun k hk0 _ ho => by
    rw [on0_at h0 hk hk0, decide_eq_true_eq] at ho
    rw [ho]
    exact .here⟩
  obtain ⟨h1, h2⟩ := marks_all hz (dAt d key).toNat (on0 z key) hs (fun k hr hn => by
    have hle := hr.le
    have hkk : k = key := hle.2 (by omega)
    rw [hkk, on0_at h0 hk h0, decide_eq_true rfl]) (by omega)
  exact ⟨h1.len, h1.only, h2⟩
end Go.Proofs.Ytikmffdmgnjpbaa
/- Distances: the way that the reference picks goes along edges, from a seed to the key. Plain facts. -/
namespace Go.Proofs.Ytikmffdmgnjpbaa
open Go.RowKit
/-- Whether a key may stand at place n behind the way so far. -/
def fitsD (d : List Int) (es : List Edg) (on : List Bool) (way : List Int) (n : Nat) (k : Nat) : Bool := onAt on (k : Int) && (decide (dAt d (k : Int) = (n : Int)) && (decide (n = 0) || hasI (outS es (way.getD (n - 1) 0)) (k : Int)))
def pickD (d : List Int) (es : List Edg) (on : List Bool) (z : Nat) (way : List Int) (n : Nat) : List Int := match (List.range z).find? (fitsD d es on way n) with | some k => [(k : Int)] | none => []
def wayUp (d : List Int) (es : List Edg) (on : List Bool) (z : Nat) : Nat → List Int
  | 0 => []
  | n + 1 => wayUp d es on z n ++ pickD d es on z (wayUp d es on z n) n
theorem outS_mem {es : List Edg} {j k : Int} : k ∈ outS es j ↔ ∃ e ∈ es, e.fr = j ∧ e.tu = k := by
  unfold outS
  rw [List.mem_flatMap]
  constructor
  · rintro ⟨e, he, hk⟩
    split at hk
    · rename_i h
      exact ⟨e, he, h, (List.mem_singleton.1 hk).symm⟩
    · exact nomatch hk
  · rintro ⟨e, he, h1, h2⟩
    exact ⟨e, he, by rw [if_pos h1, h2]; exact List.mem_singleton_self _⟩
/-- From each distance below a reached one there is a key on a shortest way. -/
theorem Rch.down {z : Nat} {es : List Edg} {sd : Int → Bool} {d : List Int} {key : Int} (h : IsDist z es sd d) (hz : ∀ e ∈ es, InZ z e) (h0 : 0 ≤ key) (hk : key < z) : ∀ m : Nat, (m : Int) ≤ dAt d key → ∃ k : Int, 0 ≤ k ∧ k < z ∧ Rch d es key k ∧ dAt d k = dAt d key - m
  | 0, _ => ⟨key, h0, hk, .here, by simp⟩
  | m + 1, hm => by
    obtain ⟨k, k0, k1, hr, hd⟩ := Rch.down h hz h0 hk m (by omega)
    obtain ⟨e, he, h1, h2, h3, h4⟩ := h.step k k0 k1 (dAt d k - 1).toNat (by omega)
    exact ⟨e.fr, h2, h3, .back he (by rw [h1]; exact hr) (by rw [h1]; omega) (by omega), by omega⟩
/-- What the way is so far. -/
structure WayD (z : Nat) (es : List Edg) (d : List Int) (key : Int) (n : Nat) (w : List Int) : Prop where
  len : w.length = n
  at_ : ∀ i, i < n → 0 ≤ w.getD i 0 ∧ w.getD i 0 < z ∧ Rch d es key (w.getD i 0) ∧ dAt d (w.getD i 0) = (i : Int)
  edge : ∀ i, 0 < i → i < n → hasI (outS es (w.getD (i - 1) 0)) (w.getD i 0) = true
theorem WayD.snoc {z : Nat} {es : List Edg} {d : List Int} {key : Int} {n : Nat} {w : List Int} (h : WayD z es d key n w) {k : Int} (k0 : 0 ≤ k) (k1 : k < z) (hr : Rch d es key k) (hd : dAt d k = (n : Int)) (he : 0 < n → hasI (outS es (w.getD (n - 1) 0)) k = true) : WayD z es d key (n + 1) (w ++ [k]) := by
  have hlo : ∀ i, i < n → (w ++ [k]).getD i 0 = w.getD i 0 := fun i hi => by
    rw [List.getD_eq_getElem?_getD, List.getElem?_append_left (by rw [h.len]; exact hi), ← List.getD_eq_getElem?_getD]
  have hhi : (w ++ [k]).getD n 0 = k := by
    rw [List.getD_eq_getElem?_getD, List.getElem?_append_right (by rw [h.len]; exact Nat.le_refl _), h.len, Nat.sub_self]; rfl
  refine ⟨by rw [List.length_append, h.len]; rfl, fun i hi => ?_, fun i h0 hi => ?_⟩
  · rcases Nat.lt_or_ge i n with h1 | h1
    · rw [hlo i h1]; exact h.at_ i h1
    · rw [show i = n by omega, hhi]; exact ⟨k0, k1, hr, hd⟩
  · rcases Nat.lt_or_ge i n with h1 | h1
    · rw [hlo i h1, hlo (i - 1) (by omega)]; exact h.edge i h0 h1
    · rw [show i = n by omega, hhi, hlo (n - 1) (by omega)]; exact he (by omega)
theorem pick_some {z : Nat} {es : List Edg} {d : List Int} {on : List Bool} {w : List Int} {n : Nat} {k : Int} (k0 : 0 ≤ k) (k1 : k < z) (hf : fitsD d es on w n k.toNat = true) : ∃ q : Nat, q < z ∧ pickD d es on z w n = [(q : Int)] ∧ fitsD d es on w n q = true ∧ ∀ j, j < q → fitsD d es on w n j = false := by
  unfold pickD
  cases hx : (List.range z).find? (fitsD d es on w n) with
  | none =>
    have h1 := List.find?_eq_none.1 hx k.toNat (List.mem_range.2 (by omega))
    exact absurd hf h1
  | some q =>
    have h1 := List.find?_some hx
    have h2 := List.mem_of_find?_eq_some hx
    refine ⟨q, List.mem_range.1 h2, rfl, h1, fun j hj => ?_⟩
    have h3 := (List.find?_range_eq_some.1 hx).2.2 j hj
    simpa using h3
theorem fits_iff {d : List Int} {es : List Edg} {on : List Bool} {w : List Int} {n k : Nat} : fitsD d es on w n k = true ↔ onAt on (k : Int) = true ∧ dAt d (k : Int) = (n : Int) ∧ (0 < n → hasI (outS es (w.getD (n - 1) 0)) (k : Int) = true) := by
  unfold fitsD
  rw [Bool.and_eq_true, Bool.and_eq_true, Bool.or_eq_true, decide_eq_true_eq, decide_eq_true_eq]
  constructor
  · rintro ⟨a, b, c⟩
    exact ⟨a, b, fun h => c.elim (fun q => by omega) id⟩
  · rintro ⟨a, b, c⟩
    exact ⟨a, b, (Nat.eq_zero_or_pos n).elim .inl (fun h => .inr (c h))⟩
end Go.Proofs.Ytikmffdmgnjpbaa
/- Distances: the reference's Put; the laws' content over distances. Plain facts. -/
namespace Go.Proofs.Ytikmffdmgnjpbaa
open Go.RowKit
/-- Where a number stands in an ascending list, or would stand; the list with it. -/
def putAt (x : Int) : List Int → Nat
  | [] => 0
  | a :: m => if a < x then putAt x m + 1 else 0
def putI (l : List Int) (x : Int) : List Int := if putAt x l < l.length ∧ l.getD (putAt x l) 0 = x then l else l.take (putAt x l) ++ x :: l.drop (putAt x l)
theorem putI_mem (l : List Int) (x y : Int) : y ∈ putI l x ↔ y ∈ l ∨ y = x := by
  unfold putI
  split
  · rename_i h
    refine ⟨.inl, fun q => q.elim id fun q => ?_⟩
    rw [q, ← h.2, List.getD_eq_getElem?_getD, List.getElem?_eq_getElem h.1]
    exact List.getElem_mem h.1
  · rw [List.mem_append, List.mem_cons]
    constructor
    · rintro (h | h | h)
      · exact .inl (List.mem_of_mem_take h)
      · exact .inr h
      · exact .inl (List.mem_of_mem_drop h)
    · rintro (h | h)
      · rw [← List.take_append_drop (putAt x l) l, List.mem_append] at h
        exact h.elim .inl fun q => .inr (.inr q)
      · exact .inr (.inl h)
theorem putAt_low (x : Int) : ∀ (l : List Int) (i : Nat), i < putAt x l → l.getD i 0 < x
  | [], i, h => absurd h (Nat.not_lt_zero _)
  | a :: m, i, h => by
    unfold putAt at h
    split at h
    · rename_i ha
      cases i with
      | zero => exact ha
      | succ i => rw [List.getD_cons_succ]; exact putAt_low x m i (by omega)
    · exact absurd h (Nat.not_lt_zero _)
theorem putAt_le (x : Int) : ∀ l : List Int, putAt x l ≤ l.length
  | [] => Nat.le_refl _
  | a :: m => by
    unfold putAt
    have := putAt_le x m
    split
    · simp only [List.length_cons]; omega
    · exact Nat.zero_le _
theorem putAt_at (x : Int) : ∀ l : List Int, putAt x l < l.length → ¬ l.getD (putAt x l) 0 < x
  | [], h => absurd h (Nat.not_lt_zero _)
  | a :: m, h => by
    unfold putAt at h ⊢
    split
    · rename_i ha
      rw [if_pos ha] at h
      rw [List.getD_cons_succ]
      exact putAt_at x m (by simpa using h)
    · rename_i ha
      simpa using ha
theorem putI_len (l : List Int) (x : Int) : (putI l x).length ≤ l.length + 1 := by
  unfold putI
  split
  · exact Nat.le_succ _
  · simp only [List.length_append, List.length_take, List.length_cons, List.length_drop]; omega
/-- From which keys distances are measured: seeds that are not gone. -/
def seedB (gn seeds : List Int) (k : Int) : Bool := hasI seeds k && !hasI gn k
/-- The distances of a graph. -/
def allD (G : Gr) (seeds : List Int) : List Int := roundsD G.es G.sz.toNat (initD G.sz.toNat (seedB G.gn seeds))
theorem good_inZ {G : Gr} (h : Good11 G) : ∀ e ∈ G.es, InZ G.sz.toNat e := fun e he => by
  have h1 := h.ends e he
  have h2 := h.lo
  unfold endsB keyB at h1
  rw [Bool.and_eq_true, Bool.and_eq_true, Bool.and_eq_true, Bool.and_eq_true, decide_eq_true_eq, decide_eq_true_eq, decide_eq_true_eq, decide_eq_true_eq] at h1
  exact ⟨h1.1.1, by omega, h1.2.1.1, by omega⟩
theorem allD_dist {G : Gr} (h : Good11 G) (seeds : List Int) : IsDist G.sz.toNat G.es (seedB G.gn seeds) (allD G seeds) := rounds_dist (good_inZ h)
theorem seedB_more {gn s s' : List Int} (h : ∀ k, k ∈ s → k ∈ s') (k : Int) (hk : seedB gn s k = true) : seedB gn s' k = true := by
  unfold seedB at *
  rw [Bool.and_eq_true] at *
  exact ⟨(hasI_iff _ _).2 (h k ((hasI_iff _ _).1 hk.1)), hk.2⟩
/-- The content of DistanceMore. -/
theorem more_edge {G : Gr} {e : Edg} {seeds : List Int} (h : (withG G e).2 = 0) {k : Int} (h0 : 0 ≤ k) (hk : k < G.sz) (hd : 0 ≤ dAt (allD G seeds) k) : 0 ≤ dAt (allD (withG G e).1 seeds) k ∧ dAt (allD (withG G e).1 seeds) k ≤ dAt (allD G seeds) k := by
  obtain ⟨g1, g2, g3, -⟩ := with_good h
  have hs : (withG G e).1.sz = G.sz := by rw [g3]
  have hg : (withG G e).1.gn = G.gn := by rw [g3]
  have a := allD_dist g1 seeds
  have b := allD_dist g2 seeds
  have hlo := g1.lo
  rw [hs, hg] at b
  have h2 := a.more b (fun x hx => ⟨good_inZ g1 x hx, x, by
    rw [g3]
    rw [← List.take_append_drop (idxE e G.es) G.es, List.mem_append] at hx
    rw [List.mem_append, List.mem_cons]
    exact hx.elim .inl fun q => .inr (.inr q), rfl, rfl⟩) (fun _ q => q) (dAt (allD G seeds) k).toNat k h0 (by omega) (by omega)
  omega
theorem more_seed {G : Gr} {seeds : List Int} {x : Int} (g : Good11 G) {k : Int} (h0 : 0 ≤ k) (hk : k < G.sz) (hd : 0 ≤ dAt (allD G seeds) k) : 0 ≤ dAt (allD G (putI seeds x)) k ∧ dAt (allD G (putI seeds x)) k ≤ dAt (allD G seeds) k := by
  have hlo := g.lo
  have h2 := (allD_dist g seeds).more (allD_dist g (putI seeds x)) (fun y hy => ⟨good_inZ g y hy, y, hy, rfl, rfl⟩) (seedB_more fun k hk => (putI_mem _ _ _).2 (.inl hk)) (dAt (allD G seeds) k).toNat k h0 (by omega) (by omega)
  omega
end Go.Proofs.Ytikmffdmgnjpbaa
/- Distances: what lies on a shortest way to a key, told by the distances to the key. Plain facts. -/
namespace Go.Proofs.Ytikmffdmgnjpbaa
open Go.RowKit
/-- An edge turned round. -/
def revE (e : Edg) : Edg := ⟨e.tu, e.fr, e.lv⟩
/-- The way round by a key is not shorter. -/
theorem IsDist.round {z : Nat} {es : List Edg} {sd : Int → Bool} {key : Int} {d b : List Int} (h : IsDist z es sd d) (hb : IsDist z (es.map revE) (fun k => decide (k = key)) b) (hz : ∀ e ∈ es, InZ z e) : ∀ (n : Nat) (k : Int), 0 ≤ k → k < z → dAt b k = (n : Int) → 0 ≤ dAt d k → 0 ≤ dAt d key ∧ dAt d key ≤ dAt d k + n
  | 0, k, h0, hk, hn, hd => by
    have h1 := (hb.zero k h0 hk).1 hn
    rw [decide_eq_true_eq] at h1
    rw [← h1]
    exact ⟨hd, by simp⟩
  | n + 1, k, h0, hk, hn, hd => by
    obtain ⟨e, he, e1, e2, e3, e4⟩ := hb.step k h0 hk n (by rw [hn]; omega)
    obtain ⟨x, hx, rfl⟩ := List.mem_map.1 he
    obtain ⟨a0, a1, a2, a3⟩ := hz x hx
    have h1 := h.edge x hx a0 a1 a2 a3 (by rw [show x.fr = k from e1]; exact hd)
    rw [show x.fr = k from e1] at h1
    have h2 := IsDist.round h hb hz n x.tu a2 a3 e4 h1.1
    omega
theorem Rch.near {z : Nat} {es : List Edg} {key : Int} {d b : List Int} (hb : IsDist z (es.map revE) (fun k => decide (k = key)) b) (hz : ∀ e ∈ es, InZ z e) (k0 : 0 ≤ key) (k1 : key < z) {k : Int} (hr : Rch d es key k) : 0 ≤ dAt b k ∧ dAt b k ≤ dAt d key - dAt d k := by
  induction hr with
  | here =>
    have h1 := (hb.zero key k0 k1).2 (by simp)
    omega
  | @back e he hr hd h0 ih =>
    obtain ⟨a0, a1, a2, a3⟩ := hz e he
    have h1 := hb.edge (revE e) (List.mem_map.2 ⟨e, he, rfl⟩) a2 a3 a0 a1 ih.1
    have h2 : (revE e).tu = e.fr := rfl
    have h3 : (revE e).fr = e.tu := rfl
    rw [h2, h3] at h1
    omega
end Go.Proofs.Ytikmffdmgnjpbaa
/- Distances: a search in breadth that queues keys ascending gives distances, and the keys before make the least ways. Plain facts. -/
namespace Go.Proofs.Ytikmffdmgnjpbaa
open Go.RowKit
/-- A queued key: the place in the queue of the key before it, plus one (0: a seed); the key. -/
structure Qd where
  b : Nat
  k : Int
def noQd : Qd := ⟨0, 0⟩
def qk (T : List Qd) (x : Nat) : Int := (T.getD x noQd).k
def qb (T : List Qd) (x : Nat) : Nat := (T.getD x noQd).b
def bfAt (l : List Int) (k : Int) : Int := l.getD k.toNat 0
theorem qk_lo {T : List Qd} (p : Qd) {x : Nat} (h : x < T.length) : qk (T ++ [p]) x = qk T x := by
  unfold qk; rw [List.getD_eq_getElem?_getD, List.getElem?_append_left h, ← List.getD_eq_getElem?_getD]
theorem qb_lo {T : List Qd} (p : Qd) {x : Nat} (h : x < T.length) : qb (T ++ [p]) x = qb T x := by
  unfold qb; rw [List.getD_eq_getElem?_getD, List.getElem?_append_left h, ← List.getD_eq_getElem?_getD]
theorem qk_hi (T : List Qd) (p : Qd) : qk (T ++ [p]) T.length = p.k := by
  unfold qk; rw [List.getD_eq_getElem?_getD, List.getElem?_append_right (Nat.le_refl _), Nat.sub_self]; rfl
theorem qb_hi (T : List Qd) (p : Qd) : qb (T ++ [p]) T.length = p.b := by
  unfold qb; rw [List.getD_eq_getElem?_getD, List.getElem?_append_right (Nat.le_refl _), Nat.sub_self]; rfl
theorem bfAt_set {d : List Int} {t : Int} (ht : t.toNat < d.length) (v k : Int) : bfAt (d.set t.toNat v) k = if t.toNat = k.toNat then v else bfAt d k := by
  unfold bfAt
  rw [List.getD_eq_getElem?_getD, List.getElem?_set, List.getD_eq_getElem?_getD]
  split
  · first | (rw [if_pos ht]; rfl) | rfl
  · rfl
/-- Where the search stands: h keys are done, of the next one the neighbours p. -/
structure Srch (z : Nat) (es : List Edg) (sd : Int → Bool) (h : Nat) (p : List Int) (T : List Qd) (d bf : List Int) : Prop where
  len : d.length = z
  blen : bf.length = z
  hle : h ≤ T.length
  inz : ∀ x, x < T.length → 0 ≤ qk T x ∧ qk T x < z
  seen : ∀ k : Int, 0 ≤ k → k < z → 0 ≤ dAt d k → ∃ x, x < T.length ∧ qk T x = k
  nn : ∀ x, x < T.length → 0 ≤ dAt d (qk T x)
  low : ∀ k : Int, 0 ≤ k → k < z → -1 ≤ dAt d k
  asc : ∀ x y, x < y → y < T.length → qb T x < qb T y ∨ (qb T x = qb T y ∧ qk T x < qk T y)
  one : ∀ x y, x < T.length → y < T.length → qk T x = qk T y → x = y
  seed : ∀ x, x < T.length → qb T x = 0 → sd (qk T x) = true ∧ dAt d (qk T x) = 0
  seeds : ∀ k : Int, 0 ≤ k → k < z → sd k = true → ∃ x, x < T.length ∧ qb T x = 0 ∧ qk T x = k
  prev : ∀ x, x < T.length → ∀ i, qb T x = i + 1 → i < x ∧ i ≤ h ∧ (i = h → qk T x ∈ p) ∧ (∃ e ∈ es, e.fr = qk T i ∧ e.tu = qk T x) ∧ dAt d (qk T x) = dAt d (qk T i) + 1 ∧ bfAt bf (qk T x) = qk T i ∧ ∀ i', i' < i → ∀ e ∈ es, e.fr = qk T i' → e.tu ≠ qk T x
  done : ∀ x, x < h → ∀ e ∈ es, e.fr = qk T x → ∃ y, y < T.length ∧ qk T y = e.tu
  part : ∀ k ∈ p, ∃ y, y < T.length ∧ qk T y = k
section
variable {z : Nat} {es : List Edg} {sd : Int → Bool} {h : Nat} {p : List Int} {T : List Qd} {d bf : List Int}
/-- A neighbour that is there already. -/
theorem Srch.old (S : Srch z es sd h p T d bf) {k : Int} (k0 : 0 ≤ k) (k1 : k < z) (hk : 0 ≤ dAt d k) : Srch z es sd h (p ++ [k]) T d bf :=
  { S with
    prev := fun x hx i hi => by
      obtain ⟨a, b, c, r⟩ := S.prev x hx i hi
      exact ⟨a, b, fun q => List.mem_append_left _ (c q), r⟩
    part := fun j hj => by
      rcases List.mem_append.1 hj with hj | hj
      · exact S.part j hj
      · rw [List.mem_singleton.1 hj]; exact S.seen k k0 k1 hk }
/-- A neighbour that is new. -/
theorem Srch.new (S : Srch z es sd h p T d bf) (hh : h < T.length) {k : Int} (k0 : 0 ≤ k) (k1 : k < z) (hk : dAt d k = -1) (he : ∃ e ∈ es, e.fr = qk T h ∧ e.tu = k) (hp : ∀ j ∈ p, j < k) :
    Srch z es sd h (p ++ [k]) (T ++ [⟨h + 1, k⟩]) (d.set k.toNat (dAt d (qk T h) + 1)) (bf.set k.toNat (qk T h)) := by
  have hl : k.toNat < d.length := by rw [S.len]; omega
  have hl2 : k.toNat < bf.length := by rw [S.blen]; omega
  have hno : ∀ x, x < T.length → qk T x ≠ k := fun x hx q => by have := S.nn x hx; rw [q] at this; omega
  have hd : ∀ j : Int, 0 ≤ j → j ≠ k → dAt (d.set k.toNat (dAt d (qk T h) + 1)) j = dAt d j := fun j j0 hj => by rw [dAt_set hl, if_neg (by omega)]
  have hdk : dAt (d.set k.toNat (dAt d (qk T h) + 1)) k = dAt d (qk T h) + 1 := by rw [dAt_set hl, if_pos rfl]
  have hb : ∀ j : Int, 0 ≤ j → j ≠ k → bfAt (bf.set k.toNat (qk T h)) j = bfAt bf j := fun j j0 hj => by rw [bfAt_set hl2, if_neg (by omega)]
  have hbk : bfAt (bf.set k.toNat (qk T h)) k = qk T h := by rw [bfAt_set hl2, if_pos rfl]
  have hT : (T ++ [(⟨h + 1, k⟩ : Qd)]).length = T.length + 1 := by rw [List.length_append]; rfl
  have klo : ∀ x, x < T.length → qk (T ++ [⟨h + 1, k⟩]) x = qk T x := fun x hx => qk_lo _ hx
  have blo : ∀ x, x < T.length → qb (T ++ [⟨h + 1, k⟩]) x = qb T x := fun x hx => qb_lo _ hx
  have khi : qk (T ++ [⟨h + 1, k⟩]) T.length = k := qk_hi T ⟨h + 1, k⟩
  have bhi : qb (T ++ [⟨h + 1, k⟩]) T.length = h + 1 := qb_hi T ⟨h + 1, k⟩
  have h0 := S.nn h hh
  refine ⟨by rw [List.length_set]; exact S.len, by rw [List.length_set]; exact S.blen, by rw [hT]; exact Nat.le_succ_of_le S.hle, ?_, ?_, ?_, ?_, ?_, ?_, ?_, ?_, ?_, ?_, ?_⟩
  · intro x hx
    rcases Nat.lt_or_ge x T.length with g | g
    · rw [klo x g]; exact S.inz x g
    · rw [show x = T.length by omega, khi]; exact ⟨k0, k1⟩
  · intro j j0 j1 hj
    by_cases q : j = k
    · exact ⟨T.length, by omega, by rw [khi, q]⟩
    · rw [hd j j0 q] at hj
      obtain ⟨x, hx, e⟩ := S.seen j j0 j1 hj
      exact ⟨x, by omega, by rw [klo x hx]; exact e⟩
  · intro x hx
    rcases Nat.lt_or_ge x T.length with g | g
    · rw [klo x g, hd _ (S.inz x g).1 (hno x g)]; exact S.nn x g
    · rw [show x = T.length by omega, khi, hdk]; omega
  · intro j j0 j1
    by_cases q : j = k
    · rw [q, hdk]; omega
    · rw [hd j j0 q]; exact S.low j j0 j1
  · intro x y hxy hy
    rcases Nat.lt_or_ge y T.length with g | g
    · rw [klo y g, blo y g, klo x (by omega), blo x (by omega)]; exact S.asc x y hxy g
    · have hxl : x < T.length := by omega
      rw [show y = T.length by omega, khi, bhi, klo x hxl, blo x hxl]
      rcases Nat.eq_zero_or_pos (qb T x) with q | q
      · left; omega
      · obtain ⟨a, b, c, -⟩ := S.prev x hxl (qb T x - 1) (by omega)
        by_cases q2 : qb T x - 1 = h
        · exact .inr ⟨by omega, hp _ (c q2)⟩
        · left; omega
  · intro x y hx hy hxy
    rcases Nat.lt_or_ge x T.length with g | g <;> rcases Nat.lt_or_ge y T.length with g2 | g2
    · rw [klo x g, klo y g2] at hxy; exact S.one x y g g2 hxy
    · rw [klo x g, show y = T.length by omega, khi] at hxy; exact absurd hxy (hno x g)
    · rw [klo y g2, show x = T.length by omega, khi] at hxy; exact absurd hxy.symm (hno y g2)
    · omega
  · intro x hx q
    rcases Nat.lt_or_ge x T.length with g | g
    · rw [blo x g] at q
      rw [klo x g, hd _ (S.inz x g).1 (hno x g)]; exact S.seed x g q
    · rw [show x = T.length by omega, bhi] at q; omega
  · intro j j0 j1 hj
    obtain ⟨x, hx, a, b⟩ := S.seeds j j0 j1 hj
    exact ⟨x, by omega, by rw [blo x hx]; exact a, by rw [klo x hx]; exact b⟩
  · intro x hx i hi
    rcases Nat.lt_or_ge x T.length with g | g
    · rw [blo x g] at hi
      obtain ⟨a, b, c, e, f, g1, g2⟩ := S.prev x g i hi
      have hil : i < T.length := by omega
      rw [klo x g, klo i hil, hd _ (S.inz x g).1 (hno x g), hd _ (S.inz i hil).1 (hno i hil), hb _ (S.inz x g).1 (hno x g)]
      exact ⟨a, b, fun q => List.mem_append_left _ (c q), e, f, g1, fun i' hi' => by rw [klo i' (by omega)]; exact g2 i' hi'⟩
    · have hxe : x = T.length := by omega
      subst hxe
      rw [bhi] at hi
      have hie : i = h := by omega
      subst hie
      rw [khi, klo i hh, hdk, hd _ (S.inz i hh).1 (hno i hh), hbk]
      exact ⟨hh, Nat.le_refl _, fun _ => List.mem_append_right _ (List.mem_singleton_self _), he, rfl, rfl, fun i' hi' e hm hf ht => by
        rw [klo i' (by omega)] at hf
        obtain ⟨y, hy, q⟩ := S.done i' hi' e hm hf
        exact hno y hy (q.trans ht)⟩
  · intro x hx e hm hf
    rw [klo x (by omega)] at hf
    obtain ⟨y, hy, q⟩ := S.done x hx e hm hf
    exact ⟨y, by omega, by rw [klo y hy]; exact q⟩
  · intro j hj
    rcases List.mem_append.1 hj with hj | hj
    · obtain ⟨y, hy, q⟩ := S.part j hj
      exact ⟨y, by omega, by rw [klo y hy]; exact q⟩
    · exact ⟨T.length, by omega, by rw [khi]; exact (List.mem_singleton.1 hj).symm⟩
/-- A key's neighbours are done. -/
theorem Srch.next (S : Srch z es sd h p T d bf) (hh : h < T.length) (hp : ∀ e ∈ es, e.fr = qk T h → e.tu ∈ p) : Srch z es sd (h + 1) [] T d bf :=
  { S with
    hle := hh
    prev := fun x hx i hi => by
      obtain ⟨a, b, c, r⟩ := S.prev x hx i hi
      exact ⟨a, by omega, fun q => by omega, r⟩
    done := fun x hx e hm hf => by
      rcases Nat.lt_or_ge x h with g | g
      · exact S.done x g e hm hf
      · rw [show x = h by omega] at hf
        exact S.part _ (hp e hm hf)
    part := fun k hk => nomatch hk }
/-- The start. -/
def seedsQ (l : List Int) : List Qd := l.map fun k => ⟨0, k⟩
theorem qk_seeds {l : List Int} {x : Nat} (hx : x < l.length) : qk (seedsQ l) x = l[x] := by
  unfold qk seedsQ
  rw [List.getD_eq_getElem?_getD, List.getElem?_map, List.getElem?_eq_getElem hx]; rfl
theorem qb_seeds (l : List Int) (x : Nat) : qb (seedsQ l) x = 0 := by
  unfold qb seedsQ
  rw [List.getD_eq_getElem?_getD, List.getElem?_map]
  cases l[x]? <;> rfl
theorem Srch.start {l : List Int} (hl : l.Pairwise (· < ·)) (hm : ∀ k, k ∈ l ↔ 0 ≤ k ∧ k < z ∧ sd k = true) (hd : d.length = z) (hb : bf.length = z) (hv : ∀ k : Int, 0 ≤ k → k < z → dAt d k = if sd k then 0 else -1) : Srch z es sd 0 [] (seedsQ l) d bf := by
  have hlen : (seedsQ l).length = l.length := by unfold seedsQ; rw [List.length_map]
  have hk : ∀ x (hx : x < (seedsQ l).length), qk (seedsQ l) x = l[x]'(by rw [← hlen]; exact hx) := fun x hx => qk_seeds (by rw [← hlen]; exact hx)
  have hmem : ∀ x, x < (seedsQ l).length → 0 ≤ qk (seedsQ l) x ∧ qk (seedsQ l) x < z ∧ sd (qk (seedsQ l) x) = true := fun x hx => by
    rw [hk x hx]; exact (hm _).1 (List.getElem_mem _)
  have hin : ∀ k : Int, 0 ≤ k → k < z → sd k = true → ∃ x, x < (seedsQ l).length ∧ qk (seedsQ l) x = k := fun k k0 k1 hs => by
    obtain ⟨x, hx, e⟩ := List.getElem_of_mem ((hm k).2 ⟨k0, k1, hs⟩)
    exact ⟨x, by rw [hlen]; exact hx, by rw [hk x (by rw [hlen]; exact hx)]; exact e⟩
  have hasc : ∀ x y, x < y → y < (seedsQ l).length → qk (seedsQ l) x < qk (seedsQ l) y := fun x y hxy hy => by
    rw [hk x (by omega), hk y hy]
    exact List.pairwise_iff_getElem.1 hl x y (by omega) (by omega) hxy
  refine ⟨hd, hb, Nat.zero_le _, fun x hx => ⟨(hmem x hx).1, (hmem x hx).2.1⟩, fun k k0 k1 hk => ?_, fun x hx => ?_, fun k k0 k1 => ?_, fun x y hxy hy => .inr ⟨by rw [qb_seeds, qb_seeds], hasc x y hxy hy⟩, fun x y hx hy e => ?_, fun x hx _ => ?_, fun k k0 k1 hs => ?_, fun x hx i hi => ?_, fun x hx => absurd hx (Nat.not_lt_zero _), fun k hk => nomatch hk⟩
  · rw [hv k k0 k1] at hk
    split at hk
    · rename_i hs; exact hin k k0 k1 hs
    · omega
  · have := hmem x hx
    rw [hv _ this.1 this.2.1, if_pos this.2.2]; exact Int.le_refl _
  · rw [hv k k0 k1]; split <;> omega
  · rcases Nat.lt_trichotomy x y with q | q | q
    · have := hasc x y q hy; omega
    · exact q
    · have := hasc y x q hx; omega
  · have := hmem x hx
    exact ⟨this.2.2, by rw [hv _ this.1 this.2.1, if_pos this.2.2]⟩
  · obtain ⟨x, hx, e⟩ := hin k k0 k1 hs
    exact ⟨x, hx, qb_seeds _ _, e⟩
  · rw [qb_seeds] at hi; omega
theorem Srch.ble (S : Srch z es sd h p T d bf) {x y : Nat} (hxy : x ≤ y) (hy : y < T.length) : qb T x ≤ qb T y := by
  rcases Nat.eq_or_lt_of_le hxy with q | q
  · rw [q]; exact Nat.le_refl _
  · rcases S.asc x y q hy with a | a <;> omega
theorem Srch.mono (S : Srch z es sd h p T d bf) : ∀ (y x : Nat), x ≤ y → y < T.length → dAt d (qk T x) ≤ dAt d (qk T y) := by
  intro y
  induction y using Nat.strongRecOn with
  | _ y ih =>
    intro x hxy hy
    have hb := S.ble hxy hy
    have hx : x < T.length := by omega
    rcases Nat.eq_zero_or_pos (qb T x) with q | q
    · rw [(S.seed x hx q).2]; exact S.nn y hy
    · obtain ⟨a, -, -, -, e, -⟩ := S.prev x hx (qb T x - 1) (by omega)
      obtain ⟨a2, -, -, -, e2, -⟩ := S.prev y hy (qb T y - 1) (by omega)
      have := ih (qb T y - 1) a2 (qb T x - 1) (by omega) (by omega)
      omega
theorem Srch.few (S : Srch z es sd h p T d bf) : T.length ≤ z := by
  have h1 := nodup_below z (T.map fun q => q.k.toNat) (by
    rw [List.nodup_iff_pairwise_ne, List.pairwise_map, List.pairwise_iff_getElem]
    intro i j hi hj hij e
    have h1 := S.inz i hi
    have h2 := S.inz j hj
    have e1 : qk T i = T[i].k := by unfold qk; rw [List.getD_eq_getElem?_getD, List.getElem?_eq_getElem hi]; rfl
    have e2 : qk T j = T[j].k := by unfold qk; rw [List.getD_eq_getElem?_getD, List.getElem?_eq_getElem hj]; rfl
    have := S.one i j hi hj (by rw [e1] at h1 ⊢; rw [e2] at h2 ⊢; omega)
    omega) fun x hx => by
      obtain ⟨q, hq, rfl⟩ := List.mem_map.1 hx
      obtain ⟨i, hi, rfl⟩ := List.getElem_of_mem hq
      have h1 := S.inz i hi
      have e1 : qk T i = T[i].k := by unfold qk; rw [List.getD_eq_getElem?_getD, List.getElem?_eq_getElem hi]; rfl
      rw [e1] at h1
      omega
  rwa [List.length_map] at h1
/-- The end: distances. -/
theorem Srch.dist (S : Srch z es sd h p T d bf) (hh : h = T.length) : IsDist z es sd d := by
  refine ⟨S.len, fun k k0 k1 => ⟨fun hk => ?_, fun hs => ?_⟩, S.low, fun k k0 k1 n hk => ?_, fun e he f0 f1 t0 t1 hd => ?_⟩
  · obtain ⟨x, hx, e⟩ := S.seen k k0 k1 (by omega)
    rcases Nat.eq_zero_or_pos (qb T x) with q | q
    · rw [← e]; exact (S.seed x hx q).1
    · obtain ⟨a, -, -, -, r, -⟩ := S.prev x hx (qb T x - 1) (by omega)
      have := S.nn (qb T x - 1) (by omega)
      rw [e] at r
      omega
  · obtain ⟨x, hx, q, e⟩ := S.seeds k k0 k1 hs
    rw [← e]; exact (S.seed x hx q).2
  · obtain ⟨x, hx, e⟩ := S.seen k k0 k1 (by omega)
    rcases Nat.eq_zero_or_pos (qb T x) with q | q
    · have := (S.seed x hx q).2
      rw [e] at this; omega
    · obtain ⟨a, -, -, ⟨g, hg, g1, g2⟩, r, -⟩ := S.prev x hx (qb T x - 1) (by omega)
      have hi := S.inz (qb T x - 1) (by omega)
      rw [e] at r g2
      exact ⟨g, hg, g2, by rw [g1]; exact hi.1, by rw [g1]; exact hi.2, by rw [g1]; omega⟩
  · obtain ⟨x, hx, e1⟩ := S.seen e.fr f0 f1 hd
    obtain ⟨y, hy, e2⟩ := S.done x (by omega) e he e1.symm
    rw [← e2]
    refine ⟨S.nn y hy, ?_⟩
    rcases Nat.eq_zero_or_pos (qb T y) with q | q
    · rw [(S.seed y hy q).2]; omega
    · obtain ⟨a, -, -, -, r, -, m⟩ := S.prev y hy (qb T y - 1) (by omega)
      have hle : qb T y - 1 ≤ x := by
        rcases Nat.lt_or_ge x (qb T y - 1) with g | g
        · exact absurd e2.symm (m x g e he e1.symm)
        · exact g
      have := S.mono x (qb T y - 1) hle hx
      rw [e1] at this
      omega
end
/-- The keys of the way, from the end. -/
def bk (bf : List Int) (key : Int) : Nat → Int
  | 0 => key
  | m + 1 => bfAt bf (bk bf key m)
section
variable {z : Nat} {es : List Edg} {sd : Int → Bool} {h : Nat} {p : List Int} {T : List Qd} {d bf : List Int} {key : Int} {n : Nat}
theorem Srch.back (S : Srch z es sd h p T d bf) (hk0 : 0 ≤ key) (hk1 : key < z) (hn : dAt d key = (n : Int)) : ∀ m, m ≤ n → (∃ x, x < T.length ∧ qk T x = bk bf key m) ∧ dAt d (bk bf key m) = ((n - m : Nat) : Int) ∧ Rch d es key (bk bf key m) ∧ (m < n → ∃ e ∈ es, e.fr = bk bf key (m + 1) ∧ e.tu = bk bf key m)
  | 0, _ => by
    obtain ⟨x, hx, e⟩ := S.seen key hk0 hk1 (by omega)
    refine ⟨⟨x, hx, e⟩, hn, .here, fun hlt => ?_⟩
    rcases Nat.eq_zero_or_pos (qb T x) with q | q
    · have := (S.seed x hx q).2
      rw [e] at this; omega
    · obtain ⟨a, -, -, ⟨g, hg, g1, g2⟩, r, b, -⟩ := S.prev x hx (qb T x - 1) (by omega)
      rw [e] at g2 b
      exact ⟨g, hg, by rw [g1]; exact b.symm, g2⟩
  | m + 1, hm => by
    obtain ⟨⟨x, hx, e⟩, hd, hr, -⟩ := Srch.back S hk0 hk1 hn m (by omega)
    rcases Nat.eq_zero_or_pos (qb T x) with q | q
    · have := (S.seed x hx q).2
      rw [e] at this; omega
    · obtain ⟨a, -, -, ⟨g, hg, g1, g2⟩, r, b, -⟩ := S.prev x hx (qb T x - 1) (by omega)
      have hi : qb T x - 1 < T.length := by omega
      have hbk : bk bf key (m + 1) = qk T (qb T x - 1) := by
        show bfAt bf (bk bf key m) = _
        rw [← e]; exact b
      rw [e, hd] at r
      have hd2 : dAt d (bk bf key (m + 1)) = ((n - (m + 1) : Nat) : Int) := by rw [hbk]; omega
      refine ⟨⟨_, hi, hbk.symm⟩, hd2, ?_, fun hlt => ?_⟩
      · have h1 := Rch.back hg (by rw [g2, e]; exact hr) (by rw [g1, g2, e]; omega) (by rw [g1]; omega)
        rw [g1, ← hbk] at h1
        exact h1
      · rcases Nat.eq_zero_or_pos (qb T (qb T x - 1)) with q2 | q2
        · have := (S.seed _ hi q2).2
          rw [← hbk] at this; omega
        · obtain ⟨a', -, -, ⟨g', hg', g1', g2'⟩, r', b', -⟩ := S.prev _ hi (qb T (qb T x - 1) - 1) (by omega)
          rw [← hbk] at g2' b'
          exact ⟨g', hg', by rw [g1']; exact b'.symm, g2'⟩
/-- Of the keys of one distance on shortest ways the way's stands first in the queue. -/
theorem Srch.first (S : Srch z es sd h p T d bf) (hz : ∀ e ∈ es, InZ z e) (hk0 : 0 ≤ key) (hk1 : key < z) (hn : dAt d key = (n : Int)) : ∀ m, m ≤ n → ∀ x y, x < T.length → y < T.length → qk T x = bk bf key m → Rch d es key (qk T y) → dAt d (qk T y) = ((n - m : Nat) : Int) → x ≤ y
  | 0, _, x, y, hx, hy, e, hr, hd => by
    have h1 := hr.le.2 (by rw [hd, hn, Nat.sub_zero])
    have := S.one x y hx hy (e.trans (h1.symm : key = qk T y))
    omega
  | m + 1, hm, x, y, hx, hy, e, hr, hd => by
    obtain ⟨⟨X, hX, eX⟩, hdX, hrX, -⟩ := S.back hk0 hk1 hn m (by omega)
    obtain ⟨g, hg, g1, g2, g3⟩ := hr.step (by omega)
    obtain ⟨-, -, t0, t1⟩ := hz g hg
    obtain ⟨Y, hY, eY⟩ := S.seen g.tu t0 t1 (by omega)
    have ih := Srch.first S hz hk0 hk1 hn m (by omega) X Y hX hY eX (by rw [eY]; exact g2) (by rw [eY]; omega)
    have hb := S.ble ih hY
    rcases Nat.eq_zero_or_pos (qb T X) with q | q
    · have := (S.seed X hX q).2
      rw [eX] at this; omega
    · obtain ⟨a, -, -, -, -, b, -⟩ := S.prev X hX (qb T X - 1) (by omega)
      obtain ⟨a2, -, -, -, -, -, m2⟩ := S.prev Y hY (qb T Y - 1) (by omega)
      have hxe : x = qb T X - 1 := S.one _ _ hx (by omega) (by rw [e, ← b, eX]; rfl)
      have hle : qb T Y - 1 ≤ y := by
        rcases Nat.lt_or_ge y (qb T Y - 1) with k | k
        · exact absurd eY.symm (m2 y k g hg g1)
        · exact k
      omega
theorem wayB_at {m i : Nat} (hi : i < m) : (((List.range m).map fun i => bk bf key (n - i)).getD i 0) = bk bf key (n - i) := by
  rw [List.getD_eq_getElem?_getD, List.getElem?_map, List.getElem?_range hi]; rfl
/-- The way by the keys before is the one that the reference picks. -/
theorem Srch.way (S : Srch z es sd h p T d bf) (hz : ∀ e ∈ es, InZ z e) (hk0 : 0 ≤ key) (hk1 : key < z) (hn : dAt d key = (n : Int)) : ∀ m, m ≤ n + 1 → wayUp d es (marked d es z key) z m = (List.range m).map fun i => bk bf key (n - i)
  | 0, _ => rfl
  | m + 1, hm => by
    have ih := Srch.way S hz hk0 hk1 hn m (by omega)
    obtain ⟨-, m1, m2⟩ := marked_iff hz hk0 hk1 (by omega : 0 ≤ dAt d key)
    obtain ⟨r, hrm⟩ : ∃ r, r = n - m := ⟨_, rfl⟩
    have er : n - r = m := by omega
    have er2 : 0 < m → n - (m - 1) = r + 1 := fun h0 => by omega
    have hrn : r ≤ n := by omega
    have hB := S.back hk0 hk1 hn r hrn
    rw [er] at hB
    obtain ⟨⟨x, hx, e⟩, hd, hr, hprev'⟩ := hB
    have hin := S.inz x hx
    rw [e] at hin
    have hprev : 0 < m → ∃ g ∈ es, g.fr = bk bf key (r + 1) ∧ g.tu = bk bf key r := fun h0 => hprev' (by omega)
    have hlast : 0 < m → ((List.range m).map fun i => bk bf key (n - i)).getD (m - 1) 0 = bk bf key (r + 1) := fun h0 => by
      rw [wayB_at (Nat.sub_lt h0 Nat.one_pos), er2 h0]
    have hF := S.first hz hk0 hk1 hn r hrn x
    rw [er] at hF
    clear er
    have hfit : fitsD d es (marked d es z key) (wayUp d es (marked d es z key) z m) m (bk bf key r).toNat = true := by
      refine fits_iff.2 ?_
      rw [show (((bk bf key r).toNat : Nat) : Int) = bk bf key r by omega]
      refine ⟨m2 _ hr (by rw [hd]; exact Int.natCast_nonneg _), hd, fun h0 => ?_⟩
      rw [ih, hlast h0]
      obtain ⟨g, hg, g1, g2⟩ := hprev h0
      exact (hasI_iff _ _).2 (outS_mem.2 ⟨g, hg, g1, g2⟩)
    obtain ⟨q, hq, hp, hfq, hmin⟩ := pick_some hin.1 hin.2 hfit
    have hle : q ≤ (bk bf key r).toNat := by
      rcases Nat.lt_or_ge (bk bf key r).toNat q with k | k
      · rw [hmin _ k] at hfit; cases hfit
      · exact k
    obtain ⟨f1, f2, f3⟩ := fits_iff.1 hfq
    have hrq := m1 (q : Int) (Int.natCast_nonneg _) (Int.ofNat_lt.2 hq) f1
    obtain ⟨y, hy, ey⟩ := S.seen (q : Int) (Int.natCast_nonneg _) (Int.ofNat_lt.2 hq) (by rw [f2]; exact Int.natCast_nonneg _)
    have hxy := hF y hx hy e (by rw [ey]; exact hrq) (by rw [ey]; exact f2)
    have hge : bk bf key r ≤ (q : Int) := by
      rw [← e, ← ey]
      rcases Nat.eq_or_lt_of_le hxy with k | k
      · rw [k]; exact Int.le_refl _
      · rcases S.asc x y k hy with k2 | k2
        · exfalso
          rcases Nat.eq_zero_or_pos m with h0 | h0
          · obtain ⟨j, hj⟩ : ∃ j, qb T y = j + 1 := ⟨qb T y - 1, by omega⟩
            obtain ⟨a, -, -, -, rr, -⟩ := S.prev y hy j hj
            have := S.nn j (Nat.lt_trans a hy)
            rw [ey, f2, h0] at rr
            omega
          · have f4 := outS_mem.1 ((hasI_iff _ _).1 (f3 h0))
            rw [ih, hlast h0] at f4
            obtain ⟨g, hg, g1, g2⟩ := f4
            rcases Nat.eq_zero_or_pos (qb T x) with q2 | q2
            · have := (S.seed x hx q2).2
              rw [e, hd] at this
              omega
            · obtain ⟨i, hi⟩ : ∃ i, qb T x = i + 1 := ⟨qb T x - 1, by omega⟩
              obtain ⟨j, hj⟩ : ∃ j, qb T y = j + 1 := ⟨qb T y - 1, by omega⟩
              obtain ⟨a, -, -, -, -, b, -⟩ := S.prev x hx i hi
              obtain ⟨a3, -, -, -, -, -, m3⟩ := S.prev y hy j hj
              refine m3 i (by omega) g hg ?_ (by rw [g2, ey])
              rw [g1, ← b, e]; rfl
        · exact Int.le_of_lt k2.2
    unfold wayUp
    rw [hp, ih, List.range_succ, List.map_append]
    have : (q : Int) = bk bf key r := by omega
    rw [this, hrm]; rfl
end
end Go.Proofs.Ytikmffdmgnjpbaa
/- The walks of cmp.Or, cmp.Compare, strings.Compare. -/
namespace Go.Proofs.Ytikmffdmgnjpbaa
open Go.RowKit
/-- The first number that is not zero. -/
def firstNZ : List Int → Int
  | [] => 0
  | x :: l => if x = 0 then firstNZ l else x
theorem firstNZ_drop (l : List Int) (j : Nat) (h : ∀ i, i < j → l.getD i 0 = 0) (hj : j ≤ l.length) : firstNZ l = firstNZ (l.drop j) := by
  induction j with
  | zero => rfl
  | succ j ih =>
    rw [ih (fun i hi => h i (by omega)) (by omega), List.drop_eq_getElem_cons (show j < l.length by omega)]
    have h0 := h j (by omega)
    rw [List.getD_eq_getElem?_getD, List.getElem?_eq_getElem (by omega)] at h0
    exact if_pos h0
set_option maxRecDepth 100000 in
set_option maxHeartbeats 1000000 in
theorem or_any (A : Option Addr) (n c : Nat) (l : List Int) (w : World) (hl : IRow w A n c l) (hn : n ≤ 1000000) :
    Calls Try.prog 54 #[.slice A n c] w fun e w' => e = .returned (.int .i64 (firstNZ l)) ∧ w' = w := by
  have HL := Lib.hid hl; have HLN := Lib.hid hl.len
  clear hl
  go_enter Try.func54, Try.ntmps54
  go_wp2
  go_loopw [8] (fun i wr => ∃ j : Nat, j ≤ n ∧ i = .int .i64 j ∧ wr = w ∧ Hid (∀ i, i < j → l.getD i 0 = 0)) (fun i _ => n - (intOf i).toNat)
  case atStart => exact ⟨0, Nat.zero_le _, rfl, rfl, Lib.hid fun _ h => absurd h (Nat.not_lt_zero _)⟩
  case round =>
    obtain ⟨j, hj, rfl, rfl, HQ⟩ := hrel
    by_cases hlt : j < n
    · obtain ⟨ab, off, hA, hc0⟩ := HL.out.cell j hlt
      subst hA
      by_cases hz : l.getD j 0 = 0
      · rw [hz] at hc0
        have HZ := Lib.hid hz; clear hz
        go_wp2
        refine ⟨⟨j + 1, hlt, by go_num, by simp, Lib.hid fun i hi => ?_⟩, by simp [intOf]; omega⟩
        by_cases h : i = j
        · rw [h]; exact HZ.out
        · exact HQ.out i (by omega)
      · have HZ : Hid (firstNZ l = l.getD j 0) := Lib.hid (by
          rw [firstNZ_drop l j HQ.out (by have := HLN.out; omega), List.drop_eq_getElem_cons (show j < l.length by have := HLN.out; omega)]
          have e : l.getD j 0 = l[j]'(by have := HLN.out; omega) := by rw [List.getD_eq_getElem?_getD, List.getElem?_eq_getElem (by have := HLN.out; omega)]; rfl
          rw [e] at hz ⊢
          show (if l[j]'_ = 0 then _ else _) = _
          rw [if_neg hz])
        generalize l.getD j 0 = x at hc0 HZ hz
        have hx : (x != 0) = true := by simpa using hz
        clear hz
        go_wp2
        go_ret
        exact ⟨by rw [HZ.out]; rfl, rfl⟩
    · have HE : Hid (j = n) := by unfold Hid; omega
      go_wp2
      go_ret
      refine ⟨?_, rfl⟩
      rw [firstNZ_drop l j HQ.out (by have := HLN.out; omega), List.drop_eq_nil_of_le (by have := HLN.out; have := HE.out; omega)]
      rfl
set_option maxHeartbeats 1000000 in
theorem cmpInt_any (x y : Int) (w : World) :
    Calls Try.prog 34 #[.int .i64 x, .int .i64 y] w fun e w' => e = .returned (.int .i64 (Lib.compareInt x y)) ∧ w' = w := by
  go_enter Try.func34, Try.ntmps34
  go_wp2
  all_goals (go_ret; refine ⟨?_, rfl⟩; unfold Lib.compareInt; (repeat' split) <;> first | rfl | (exfalso; omega))
end Go.Proofs.Ytikmffdmgnjpbaa
/- The walk of store's compare. -/
namespace Go.Proofs.Ytikmffdmgnjpbaa
open Go.RowKit
/-- Blocks and draws may have come; nothing has turned. -/
def Laid (a b : World) : Prop := Below a.heap.size a b ∧ a.drawn ≤ b.drawn
theorem Laid.refl (a : World) : Laid a a := ⟨Below.refl _ _, Nat.le_refl _⟩
theorem Laid.trans {a b c : World} (h : Laid a b) (k : Laid b c) : Laid a c := ⟨h.1.trans (k.1.mono h.1.size), Nat.le_trans h.2 k.2⟩
theorem Laid.alloc (a : World) (o : Obj) : Laid a (a.alloc o) := ⟨one_new a o, Nat.le_refl _⟩
theorem Laid.drew (a : World) : Laid a a.drew := ⟨(Below.refl _ _).drew, Nat.le_succ _⟩
end Go.Proofs.Ytikmffdmgnjpbaa
/- The walk of graph's compare, and its order. -/
namespace Go.Proofs.Ytikmffdmgnjpbaa
open Go.RowKit
/-- The order of edges as the program reckons it. -/
def cmpEd (a b : Edg) : Int := firstNZ [Lib.compareInt a.fr b.fr, Lib.compareInt a.tu b.tu]
theorem cmpI_three (x y : Int) : (x < y ∧ Lib.compareInt x y = -1) ∨ (x = y ∧ Lib.compareInt x y = 0) ∨ (y < x ∧ Lib.compareInt x y = 1) := by
  unfold Lib.compareInt
  (repeat' split) <;> omega
theorem cmpEd_iff (a b : Edg) : cmpEd a b < 0 ↔ befE a b = true := by
  rw [befE_iff]
  unfold cmpEd firstNZ firstNZ firstNZ ltE
  rcases cmpI_three a.fr b.fr with ⟨h, e⟩ | ⟨h, e⟩ | ⟨h, e⟩
  · rw [e, if_neg (by decide)]; omega
  · rw [e, if_pos rfl]
    rcases cmpI_three a.tu b.tu with ⟨k, f⟩ | ⟨k, f⟩ | ⟨k, f⟩
    · rw [f, if_neg (by decide)]; omega
    · rw [f, if_pos rfl]; omega
    · rw [f, if_neg (by decide)]; omega
  · rw [e, if_neg (by decide)]; omega
theorem edg_cells {w : World} {g : Nat} {p : Edg} {t : TypeId} {fr : Nat × Nat} (h : w.heap[g]? = some (.cells p.arr t fr)) :
    w.cell? ⟨g, 0, none⟩ = some (.int .i64 p.fr) ∧ w.cell? ⟨g, 1, none⟩ = some (.int .i64 p.tu) ∧ w.cell? ⟨g, 2, none⟩ = some (.int .i64 p.lv) :=
  ⟨(cell_of_row _ _ 0 _ _ _ h).trans rfl, (cell_of_row _ _ 1 _ _ _ h).trans rfl, (cell_of_row _ _ 2 _ _ _ h).trans rfl⟩
theorem edg_futs {F : World → World → Prop} (hr : ∀ w, F w w) {W : World} {g : Nat} {p : Edg} {t : TypeId} {fr : Nat × Nat} (hF : ∀ w', F W w' → w'.heap[g]? = W.heap[g]?) (h : W.heap[g]? = some (.cells p.arr t fr)) :
    (∀ x, (fut F W x).cell? ⟨g, 0, none⟩ = some (.int .i64 p.fr)) ∧ (∀ x, (fut F W x).cell? ⟨g, 1, none⟩ = some (.int .i64 p.tu)) ∧ (∀ x, (fut F W x).cell? ⟨g, 2, none⟩ = some (.int .i64 p.lv)) := by
  have h2 := fun x => edg_cells ((hF _ (fut_ok hr W x)).trans h)
  exact ⟨fun x => (h2 x).1, fun x => (h2 x).2.1, fun x => (h2 x).2.2⟩
set_option maxRecDepth 100000 in
set_option maxHeartbeats 1000000 in
theorem compareEd_any (p q : Edg) (w : World) : Calls Try.prog 46 #[.agg p.arr, .agg q.arr] w fun e w' => e = .returned (.int .i64 (cmpEd p q)) ∧ Laid w w' := by
  have HB : Hid (Laid w (((w.alloc (.cells p.arr 38)).alloc (.cells q.arr 38)).drew)) := Lib.hid (((Laid.alloc w _).trans (Laid.alloc _ _)).trans (Laid.drew _))
  have HX : Hid ((((w.alloc (.cells p.arr 38)).alloc (.cells q.arr 38)).drew).heap[w.heap.size]? = some (.cells p.arr 38 (0, 0))) := Lib.hid ((Below.heap_alloc _ _ _ (by simp)).trans (heap_alloc_new _ _))
  have HY : Hid ((((w.alloc (.cells p.arr 38)).alloc (.cells q.arr 38)).drew).heap[w.heap.size + 1]? = some (.cells q.arr 38 (0, 0))) := Lib.hid (heap_alloc2_new _ _ _)
  unfold cmpEd
  go_enter Try.func46, Try.ntmps46
  go_wp2_with fail
  refine wp_region_grow (by kernel_rfl) Laid Laid.refl (fun _ _ _ => Laid.trans) [12] [([0, 1, 2, 3, 5, 6, 7, 8], 4), ([], 9), ([], 10), ([], 11)] (by kernel_rfl) (by kernel_rfl) (by kernel_rfl) ?_
  simp only [List.map_cons, List.map_nil, pick, List.getD_cons_zero, List.getD_cons_succ]
  generalize (((w.alloc (.cells p.arr 38)).alloc (.cells q.arr 38)).drew) = w1 at HB HX HY ⊢
  have hlx : w.heap.size < w1.heap.size := (Array.getElem?_eq_some_iff.1 HX.out).1
  have hly : w.heap.size + 1 < w1.heap.size := (Array.getElem?_eq_some_iff.1 HY.out).1
  obtain ⟨hf0, hf1, hf2⟩ := edg_futs (F := Laid) Laid.refl (p := p) (W := w1) (fun w' h => h.1.block _ hlx) HX.out
  obtain ⟨hg0, hg1, hg2⟩ := edg_futs (F := Laid) Laid.refl (p := q) (W := w1) (fun w' h => h.1.block _ hly) HY.out
  obtain ⟨x0, x1, x2⟩ := p
  obtain ⟨y0, y1, y2⟩ := q
  simp only at hf0 hf1 hf2 hg0 hg1 hg2 ⊢
  refine wpGrow_cons ?_
  repeat (go_big_quiet_step (fail))
  refine wpQuiet_nil ?_
  clear hf0 hf1 hf2 hg0 hg1 hg2 HX HY hlx hly
  go_wp2_with fail
  refine (cmpInt_any _ _ _).mono ?_
  rintro e w2 ⟨rfl, rfl⟩
  go_wp2_with fail
  refine pieceEnd_normal ⟨Laid.refl _, ?_⟩
  refine wpGrow_cons ?_
  refine wpQuiet_nil ?_
  go_wp2_with fail
  refine (cmpInt_any _ _ _).mono ?_
  rintro e w4 ⟨rfl, rfl⟩
  go_wp2_with fail
  refine pieceEnd_normal ⟨Laid.refl _, ?_⟩
  generalize hr1 : Lib.compareInt x0 y0 = r1
  generalize hr2 : Lib.compareInt x1 y1 = r2
  have HR := Lib.hid (And.intro hr1 hr2); clear hr1 hr2
  refine wpGrow_cons ?_
  refine wpQuiet_nil ?_
  go_wp2_with fail
  refine pieceEnd_normal ⟨Laid.alloc _ _, ?_⟩
  have HI := Lib.hid (show IRow (w4.alloc (.cells #[.int .i64 r1, .int .i64 r2] 3)) (some ⟨w4.heap.size, 0, none⟩) 2 2 [r1, r2] from Row.of_block (heap_alloc_new _ _) rfl)
  have HB2 := Lib.hid (HB.out.trans (Laid.alloc w4 (.cells #[.int .i64 r1, .int .i64 r2] 3)))
  refine wpGrow_cons ?_
  refine wpQuiet_nil ?_
  go_wp2_with fail
  refine (or_any _ _ _ _ _ HI.out (by omega)).mono ?_
  rintro e w5 ⟨rfl, rfl⟩
  go_wp2_with fail
  refine pieceEnd_normal ⟨Laid.refl _, ?_⟩
  refine wpGrow_nil ?_
  repeat (go_big_quiet_step (fail))
  refine wpQuiet_nil ?_
  go_wp2_with fail
  go_ret
  exact ⟨by rw [HR.out.1, HR.out.2]; rfl, HB2.out⟩
end Go.Proofs.Ytikmffdmgnjpbaa
/- The walks of slices.Index and Contains over numbers, and of the function literal that tells first places. -/
namespace Go.Proofs.Ytikmffdmgnjpbaa
open Go.RowKit
/-- Where a number stands first in a list, counted from i; -1 if it is not there. -/
def idxI : List Int → Int → Nat → Int
  | [], _, _ => -1
  | a :: l, x, i => if x = a then (i : Int) else idxI l x (i + 1)
theorem idxI_has (x : Int) : ∀ (l : List Int) (i : Nat), decide (0 ≤ idxI l x i) = hasI l x
  | [], _ => rfl
  | a :: l, i => by
    unfold idxI hasI
    by_cases h : x = a
    · rw [if_pos h, if_pos h.symm]; exact decide_eq_true (Int.natCast_nonneg _)
    · rw [if_neg h, if_neg (fun q => h q.symm)]; exact idxI_has x l (i + 1)
set_option maxRecDepth 100000 in
set_option maxHeartbeats 4000000 in
theorem index_anyI (A : Option Addr) (n c : Nat) (l : List Int) (x : Int) (w : World) (hl : IRow w A n c l) (hn : n ≤ 100000) : Calls Try.prog 57 #[.slice A n c, .int .i64 x] w (SaysL (.int .i64 (idxI l x 0)) w) := by
  have HL := Lib.hid hl; have HLN : Hid (l.length = n) := Lib.hid hl.len
  clear hl
  go_enter Try.func57, Try.ntmps57
  go_wp2_with fail
  go_loopw [8] (fun i wr => ∃ j : Nat, j ≤ n ∧ i = .int .i64 j ∧ Hid (idxI (l.drop j) x j = idxI l x 0 ∧ Below w.heap.size w wr)) (fun i _ => n - (intOf i).toNat)
  case atStart => exact ⟨0, Nat.zero_le _, rfl, Lib.hid ⟨rfl, Below.refl _ _⟩⟩
  case round =>
    obtain ⟨j, hj, rfl, HQ⟩ := hrel
    by_cases hlt : j < n
    · have hlt2 : (j : Int) < (n : Int) := by omega
      obtain ⟨b, off, hA, hc⟩ := IRow.cell (HL.out.later HQ.out.2) j hlt
      subst hA
      have HD : Hid (idxI (l.drop j) x j = if x = l.getD j 0 then (j : Int) else idxI (l.drop (j + 1)) x (j + 1)) := Lib.hid (by
        rw [List.drop_eq_getElem_cons (by rw [HLN.out]; exact hlt), idxI, List.getD_eq_getElem?_getD, List.getElem?_eq_getElem (by rw [HLN.out]; exact hlt)]; rfl)
      generalize l.getD j 0 = a at *
      by_cases hax : x = a
      · have b0 : (x == a) = true := by rw [hax]; simp
        have HT : Hid (idxI l x 0 = (j : Int)) := Lib.hid (by rw [← HQ.out.1, HD.out, if_pos hax])
        clear hax
        go_wp2_with fail
        go_ret
        exact ⟨by rw [HT.out]; rfl, HQ.out.2⟩
      · have b0 : (x == a) = false := by rw [beq_eq_false_iff_ne]; exact hax
        have HT : Hid (idxI (l.drop (j + 1)) x (j + 1) = idxI l x 0) := Lib.hid (by rw [← HQ.out.1, HD.out, if_neg hax])
        clear hax
        go_wp2_with fail
        exact ⟨⟨j + 1, hlt, by go_num, Lib.hid ⟨HT.out, HQ.out.2⟩⟩, by simp [intOf]; omega⟩
    · have hlt2 : ¬ (j : Int) < (n : Int) := by omega
      have HT : Hid (idxI l x 0 = -1) := Lib.hid (by rw [← HQ.out.1, List.drop_eq_nil_of_le (by rw [HLN.out]; omega)]; rfl)
      go_wp2_with fail
      go_ret
      exact ⟨by rw [HT.out]; rfl, HQ.out.2⟩
set_option maxRecDepth 100000 in
set_option maxHeartbeats 4000000 in
theorem contains_anyI (A : Option Addr) (n c : Nat) (l : List Int) (x : Int) (w : World) (hl : IRow w A n c l) (hn : n ≤ 100000) : Calls Try.prog 49 #[.slice A n c, .int .i64 x] w (SaysL (.bool (hasI l x)) w) := by
  have HI := Lib.hid (index_anyI A n c l x w hl hn)
  have HV := Lib.hid (idxI_has x l 0)
  clear hl
  generalize idxI l x 0 = q at *
  generalize hasI l x = r at *
  go_enter Try.func49, Try.ntmps49
  go_wp2_with fail
  refine HI.out.mono ?_
  rintro e w1 ⟨rfl, hb⟩
  have HB := Lib.hid hb
  have hd : decide (0 ≤ q) = r := HV.out
  clear hb HI
  cases r
  · go_wp2_with fail
    go_ret
    exact ⟨rfl, HB.out⟩
  · go_wp2_with fail
    go_ret
    exact ⟨rfl, HB.out⟩
set_option maxRecDepth 100000 in
set_option maxHeartbeats 4000000 in
theorem first1_any (G : Gr) (A : Option Addr) (n c : Nat) (B : Option Addr) (m k : Nat) (A2 : Option Addr) (n2 c2 : Nat) (seeds : List Int) (x : Int) (g1 g2 : Nat) (w : World) (hg1 : w.heap[g1]? = some (.cells #[.int .i64 G.sz, .slice A n c, .slice B m k] 29)) (hg2 : w.heap[g2]? = some (.cells #[.slice A2 n2 c2] 22 (0, 0))) (hb : IRow w B m k G.gn) (hs : IRow w A2 n2 c2 seeds) (hm : m ≤ 100000) (hn : n2 ≤ 100000) :
    Calls Try.prog 48 #[.int .i64 x, .pointer (some ⟨g2, 0, none⟩), .pointer (some ⟨g1, 0, none⟩)] w (SaysL (.bool (seedB G.gn seeds x)) w) := by
  have HG := Lib.hid hg1
  have HC1 := Lib.hid (contains_anyI A2 n2 c2 seeds x w hs hn)
  have HC2 : Hid (∀ y, Below w.heap.size w y → Calls Try.prog 49 #[.slice B m k, .int .i64 x] y (SaysL (.bool (hasI G.gn x)) y)) := Lib.hid fun y hy => contains_anyI B m k G.gn x y (hb.later hy) hm
  have HV : Hid (seedB G.gn seeds x = (hasI seeds x && !hasI G.gn x)) := Lib.hid rfl
  have hc : w.cell? ⟨g2, 0, none⟩ = some (.slice A2 n2 c2) := (cell_of_row _ _ 0 _ _ _ hg2).trans rfl
  generalize seedB G.gn seeds x = r at *
  generalize hasI seeds x = a at *
  generalize hasI G.gn x = b at *
  clear hg1 hg2 hb hs
  go_enter Try.func48, Try.ntmps48
  go_wp2_with fail
  refine HC1.out.mono ?_
  rintro e w1 ⟨rfl, hb⟩
  have HB := Lib.hid hb
  have HG1 : Hid (w1.heap[g1]? = _) := Lib.hid ((hb.block _ (Array.getElem?_eq_some_iff.1 HG.out).1).trans HG.out)
  clear hb HC1 HG hc
  cases a
  · have HR : Hid (r = false) := Lib.hid (by rw [HV.out]; rfl)
    go_wp2_with fail
    go_ret
    exact ⟨by rw [HR.out]; rfl, HB.out⟩
  · have hc2 : w1.cell? ⟨g1, 2, none⟩ = some (.slice B m k) := (cell_of_row _ _ 2 _ _ _ HG1.out).trans rfl
    go_wp2_with fail
    refine (HC2.out w1 HB.out).mono ?_
    rintro e w2 ⟨rfl, hb⟩
    have HB2 := Lib.hid (HB.out.trans (hb.mono HB.out.size))
    clear hb HC2 hc2
    cases b
    · have HR : Hid (r = true) := Lib.hid (by rw [HV.out]; rfl)
      go_wp2_with fail
      go_ret
      exact ⟨by rw [HR.out]; rfl, HB2.out⟩
    · have HR : Hid (r = false) := Lib.hid (by rw [HV.out]; rfl)
      go_wp2_with fail
      go_ret
      exact ⟨by rw [HR.out]; rfl, HB2.out⟩
end Go.Proofs.Ytikmffdmgnjpbaa
/- Graphs: the walk of the reference's Without. -/
namespace Go.Proofs.Ytikmffdmgnjpbaa
open Go.RowKit
end Go.Proofs.Ytikmffdmgnjpbaa
/- The law of layer 11 on one graph, over any program that gives what layer 11 asks. -/
namespace Go.Proofs.Ytikmffdmgnjpbaa
open Go.RowKit
theorem set_at {l : List Int} {z : Int} (h : setB l z = true) {i : Nat} (hi : i < l.length) : 0 ≤ l.getD i 0 ∧ l.getD i 0 < z ∧ (0 < i → l.getD (i - 1) 0 < l.getD i 0) := by
  unfold setB at h
  rw [List.all_eq_true] at h
  have h1 := h i (List.mem_range.2 hi)
  unfold okSet at h1
  rw [Bool.and_eq_true, Bool.and_eq_true, Bool.or_eq_true, decide_eq_true_eq, decide_eq_true_eq, decide_eq_true_eq, decide_eq_true_eq] at h1
  exact ⟨h1.1, h1.2.1, fun h0 => h1.2.2.elim (fun q => by omega) id⟩
theorem set_len {l : List Int} {z : Int} (h : setB l z = true) (hz : z ≤ 64) : l.length ≤ 64 := by
  have hk : ∀ i, i < l.length → (i : Int) ≤ l.getD i 0 ∧ l.getD i 0 < z := by
    intro i
    induction i with
    | zero =>
      intro hi
      have := set_at h hi
      exact ⟨by omega, this.2.1⟩
    | succ i ih =>
      intro hi
      have h1 := ih (by omega)
      have h2 := set_at h hi
      exact ⟨by have := h2.2.2 (by omega); rw [Nat.add_sub_cancel] at this; omega, h2.2.1⟩
  rcases Nat.eq_zero_or_pos l.length with h0 | h0
  · omega
  · have := hk (l.length - 1) (by omega)
    omega
theorem Good11.few {G : Gr} (h : Good11 G) : G.es.length ≤ 100000 ∧ G.gn.length ≤ 100000 := ⟨Nat.le_trans h.len (by decide), Nat.le_trans (set_len h.set h.hi) (by decide)⟩
end Go.Proofs.Ytikmffdmgnjpbaa
