import Derived.Test.YtdildmfjekdlgaaPackAN
import Derived.Test.YtdildmfjekdlgaaGGraphP
import Derived.Test.YtdildmfjekdlgaaPackAK
import Derived.Test.YtdildmfjekdlgaaGWithP
import Derived.Test.YtdildmfjekdlgaaGCheckP
/- Plain facts on how many edges leave and come. -/
namespace Go.Proofs.Ytdildmfjekdlgaa
open Go.RowKit
theorem Good11.keys {G : Gr} (h : Good11 G) : (∀ e ∈ G.es, 0 ≤ e.fr ∧ e.fr < G.sz) ∧ (∀ e ∈ G.es, 0 ≤ e.tu ∧ e.tu < G.sz) := by
  have hk : ∀ e ∈ G.es, (0 ≤ e.fr ∧ e.fr < G.sz) ∧ (0 ≤ e.tu ∧ e.tu < G.sz) := fun e he => by
    have h1 := h.ends e he
    unfold endsB keyB at h1
    rw [Bool.and_eq_true, Bool.and_eq_true, Bool.and_eq_true, Bool.and_eq_true, decide_eq_true_eq, decide_eq_true_eq, decide_eq_true_eq, decide_eq_true_eq] at h1
    exact ⟨h1.1, h1.2.1⟩
  exact ⟨fun e he => (hk e he).1, fun e he => (hk e he).2⟩
theorem GOwn.but {D : Nat} {w w' : World} {B : Nat} {G : Gr} {v : Value} (h : GOwn w B G v) (hb : But D w w') (hD : D < B) : GOwn w' B G v := by
  obtain ⟨e, g, rfl, h1, h2⟩ := h
  exact ⟨e, g, rfl, own_keepL h1 fun q hq => hb.block q (own_lt h1 q hq) (by have := own_ge h1 q hq; omega), own_keepL h2 fun q hq => hb.block q (own_lt h2 q hq) (by have := own_ge h2 q hq; omega)⟩
end Go.Proofs.Ytdildmfjekdlgaa
/- Distances: the reference's way: what is marked, what is picked. Plain facts. -/
namespace Go.Proofs.Ytdildmfjekdlgaa
open Go.RowKit
def onAt (on : List Bool) (k : Int) : Bool := on.getD k.toNat false
def markD (d : List Int) (n : Int) (on : List Bool) (e : Edg) : List Bool := if onAt on e.tu = true ∧ dAt d e.tu = n ∧ dAt d e.fr = n - 1 then on.set e.fr.toNat true else on
def marksD (d : List Int) (es : List Edg) : Nat → List Bool → List Bool
  | 0, on => on
  | n + 1, on => marksD d es n (es.foldl (markD d ((n : Int) + 1)) on)
/-- What lies on a shortest way to a key. -/
inductive Rch (d : List Int) (es : List Edg) (key : Int) : Int → Prop
  | here : Rch d es key key
  | back {e : Edg} (h : e ∈ es) (hr : Rch d es key e.tu) (hd : dAt d e.fr = dAt d e.tu - 1) (h0 : 0 ≤ dAt d e.fr) : Rch d es key e.fr
theorem Rch.le {d : List Int} {es : List Edg} {key k : Int} (h : Rch d es key k) : dAt d k ≤ dAt d key ∧ (dAt d k = dAt d key → k = key) := by
  induction h with
  | here => exact ⟨Int.le_refl _, fun _ => rfl⟩
  | back h hr hd h0 ih => exact ⟨by have := ih.1; omega, fun q => by have := ih.1; omega⟩
theorem Rch.step {d : List Int} {es : List Edg} {key k : Int} (h : Rch d es key k) (hlt : dAt d k < dAt d key) : ∃ e ∈ es, e.fr = k ∧ Rch d es key e.tu ∧ dAt d e.tu = dAt d k + 1 := by
  cases h with
  | here => omega
  | back h hr hd h0 => exact ⟨_, h, rfl, hr, by omega⟩
theorem onAt_set {on : List Bool} {t : Int} (ht : t.toNat < on.length) (k : Int) : onAt (on.set t.toNat true) k = if t.toNat = k.toNat then true else onAt on k := by
  unfold onAt
  rw [List.getD_eq_getElem?_getD, List.getElem?_set, List.getD_eq_getElem?_getD]
  split
  · first | (rw [if_pos ht]; rfl) | rfl
  · rfl
/-- What one level's marks keep. -/
structure OnD (d : List Int) (es : List Edg) (z : Nat) (key : Int) (on : List Bool) : Prop where
  len : on.length = z
  only : ∀ k : Int, 0 ≤ k → k < z → onAt on k = true → Rch d es key k
theorem mark_fold {d : List Int} {es : List Edg} {z : Nat} {key n : Int} (hn : 1 ≤ n) (hz : ∀ e ∈ es, InZ z e) : ∀ (q : List Edg) (on : List Bool), (∀ e ∈ q, e ∈ es) → OnD d es z key on →
    OnD d es z key (q.foldl (markD d n) on) ∧ (∀ k : Int, onAt on k = true → onAt (q.foldl (markD d n) on) k = true) ∧ (∀ e ∈ q, onAt on e.tu = true → dAt d e.tu = n → dAt d e.fr = n - 1 → onAt (q.foldl (markD d n) on) e.fr = true)
  | [], on, _, h => ⟨h, fun _ q => q, fun _ q => nomatch q⟩
  | e :: q, on, hq, h => by
    have he := hq e (List.mem_cons_self ..)
    obtain ⟨f0, f1, t0, t1⟩ := hz e he
    have hs : OnD d es z key (markD d n on e) ∧ (∀ k : Int, onAt on k = true → onAt (markD d n on e) k = true) ∧ (onAt on e.tu = true → dAt d e.tu = n → dAt d e.fr = n - 1 → onAt (markD d n on e) e.fr = true) := by
      unfold markD
      split
      · rename_i hc
        have hl : e.fr.toNat < on.length := by rw [h.len]; omega
        refine ⟨⟨by rw [List.length_set]; exact h.len, fun k h0 hk ho => ?_⟩, fun k ho => ?_, fun _ _ _ => ?_⟩
        · rw [onAt_set hl] at ho
          split at ho
          · rename_i hh
            have hk2 : k = e.fr := by omega
            rw [hk2]
            exact .back he (h.only e.tu t0 t1 hc.1) (by rw [hc.2.1, hc.2.2]) (by rw [hc.2.2]; omega)
          · exact h.only k h0 hk ho
        · rw [onAt_set hl]
          split
          · rfl
          · exact ho
        · rw [onAt_set hl, if_pos rfl]
      · rename_i hc
        exact ⟨h, fun k ho => ho, fun a b c => absurd ⟨a, b, c⟩ hc⟩
    obtain ⟨h1, h2, h3⟩ := mark_fold hn hz q (markD d n on e) (fun x hx => hq x (List.mem_cons_of_mem _ hx)) hs.1
    rw [List.foldl_cons]
    refine ⟨h1, fun k ho => h2 k (hs.2.1 k ho), fun x hx a b c => ?_⟩
    rcases List.mem_cons.1 hx with rfl | hx
    · exact h2 _ (hs.2.2 a b c)
    · exact h3 x hx (hs.2.1 _ a) b c
theorem marks_all {d : List Int} {es : List Edg} {z : Nat} {key : Int} (hz : ∀ e ∈ es, InZ z e) : ∀ (n : Nat) (on : List Bool), OnD d es z key on → (∀ k : Int, Rch d es key k → (n : Int) ≤ dAt d k → onAt on k = true) → (n : Int) ≤ dAt d key →
    OnD d es z key (marksD d es n on) ∧ ∀ k : Int, Rch d es key k → 0 ≤ dAt d k → onAt (marksD d es n on) k = true
  | 0, on, h, ha, _ => ⟨h, fun k hr h0 => ha k hr (by simpa using h0)⟩
  | n + 1, on, h, ha, hk => by
    unfold marksD
    obtain ⟨h1, h2, h3⟩ := mark_fold (n := (n : Int) + 1) (by omega) hz es on (fun _ q => q) h
    refine marks_all hz n _ h1 (fun k hr hn => ?_) (by omega)
    rcases Int.lt_or_le (dAt d k) ((n : Int) + 1) with h4 | h4
    · have h5 : dAt d k = (n : Int) := by omega
      obtain ⟨e, he, hf, ht, hd⟩ := hr.step (by omega)
      have h6 := ha e.tu ht (by omega)
      have h7 := h3 e he h6 (by omega) (by rw [hf]; omega)
      rwa [hf] at h7
    · exact h2 k (ha k hr (by omega))
/-- The marks at the start: the key alone. -/
def on0 (z : Nat) (key : Int) : List Bool := (List.replicate z false).set key.toNat true
theorem on0_at {z : Nat} {key : Int} (h0 : 0 ≤ key) (hk : key < z) {k : Int} (hk0 : 0 ≤ k) : onAt (on0 z key) k = decide (k = key) := by
  unfold on0
  rw [onAt_set (by rw [List.length_replicate]; omega)]
  by_cases h : k = key
  · rw [if_pos (by rw [h]), decide_eq_true h]
  · rw [if_neg (by omega), decide_eq_false h]
    unfold onAt
    rw [List.getD_eq_getElem?_getD, List.getElem?_replicate]
    split <;> rfl
def marked (d : List Int) (es : List Edg) (z : Nat) (key : Int) : List Bool := marksD d es (dAt d key).toNat (on0 z key)
theorem marked_iff {d : List Int} {es : List Edg} {z : Nat} {key : Int} (hz : ∀ e ∈ es, InZ z e) (h0 : 0 ≤ key) (hk : key < z) (hd : 0 ≤ dAt d key) : (marked d es z key).length = z ∧ (∀ k : Int, 0 ≤ k → k < z → onAt (marked d es z key) k = true → Rch d es key k) ∧ (∀ k : Int, Rch d es key k → 0 ≤ dAt d k → onAt (marked d es z key) k = true) := by
  have hs : OnD d es z key (on0 z key) := ⟨by unfold on0; rw [List.length_set, List.length_replicate], fun k hk0 _ ho => by
    rw [on0_at h0 hk hk0, decide_eq_true_eq] at ho
    rw [ho]
    exact .here⟩
  obtain ⟨h1, h2⟩ := marks_all hz (dAt d key).toNat (on0 z key) hs (fun k hr hn => by
    have hle := hr.le
    have hkk : k = key := hle.2 (by omega)
    rw [hkk, on0_at h0 hk h0, decide_eq_true rfl]) (by omega)
  exact ⟨h1.len, h1.only, h2⟩
end Go.Proofs.Ytdildmfjekdlgaa
/- Distances: the way that the reference picks goes along edges, from a seed to the key. Plain facts. -/
namespace Go.Proofs.Ytdildmfjekdlgaa
open Go.RowKit
/-- Whether a key may stand at place n behind the way so far. -/
def fitsD (d : List Int) (es : List Edg) (on : List Bool) (way : List Int) (n : Nat) (k : Nat) : Bool := onAt on (k : Int) && (decide (dAt d (k : Int) = (n : Int)) && (decide (n = 0) || hasI (outS es (way.getD (n - 1) 0)) (k : Int)))
def pickD (d : List Int) (es : List Edg) (on : List Bool) (z : Nat) (way : List Int) (n : Nat) : List Int := match (List.range z).find? (fitsD d es on way n) with | some k => [(k : Int)] | none => []
def wayUp (d : List Int) (es : List Edg) (on : List Bool) (z : Nat) : Nat → List Int
  | 0 => []
  | n + 1 => wayUp d es on z n ++ pickD d es on z (wayUp d es on z n) n
theorem outS_mem {es : List Edg} {j k : Int} : k ∈ outS es j ↔ ∃ e ∈ es, e.fr = j ∧ e.tu = k := by
  unfold outS
  rw [List.mem_flatMap]
  constructor
  · rintro ⟨e, he, hk⟩
    split at hk
    · rename_i h
      exact ⟨e, he, h, (List.mem_singleton.1 hk).symm⟩
    · exact nomatch hk
  · rintro ⟨e, he, h1, h2⟩
    exact ⟨e, he, by rw [if_pos h1, h2]; exact List.mem_singleton_self _⟩
/-- What the way is so far. -/
structure WayD (z : Nat) (es : List Edg) (d : List Int) (key : Int) (n : Nat) (w : List Int) : Prop where
  len : w.length = n
  at_ : ∀ i, i < n → 0 ≤ w.getD i 0 ∧ w.getD i 0 < z ∧ Rch d es key (w.getD i 0) ∧ dAt d (w.getD i 0) = (i : Int)
  edge : ∀ i, 0 < i → i < n → hasI (outS es (w.getD (i - 1) 0)) (w.getD i 0) = true
theorem WayD.snoc {z : Nat} {es : List Edg} {d : List Int} {key : Int} {n : Nat} {w : List Int} (h : WayD z es d key n w) {k : Int} (k0 : 0 ≤ k) (k1 : k < z) (hr : Rch d es key k) (hd : dAt d k = (n : Int)) (he : 0 < n → hasI (outS es (w.getD (n - 1) 0)) k = true) : WayD z es d key (n + 1) (w ++ [k]) := by
  have hlo : ∀ i, i < n → (w ++ [k]).getD i 0 = w.getD i 0 := fun i hi => by
    rw [List.getD_eq_getElem?_getD, List.getElem?_append_left (by rw [h.len]; exact hi), ← List.getD_eq_getElem?_getD]
  have hhi : (w ++ [k]).getD n 0 = k := by
    rw [List.getD_eq_getElem?_getD, List.getElem?_append_right (by rw [h.len]; exact Nat.le_refl _), h.len, Nat.sub_self]; rfl
  refine ⟨by rw [List.length_append, h.len]; rfl, fun i hi => ?_, fun i h0 hi => ?_⟩
  · rcases Nat.lt_or_ge i n with h1 | h1
    · rw [hlo i h1]; exact h.at_ i h1
    · rw [show i = n by omega, hhi]; exact ⟨k0, k1, hr, hd⟩
  · rcases Nat.lt_or_ge i n with h1 | h1
    · rw [hlo i h1, hlo (i - 1) (by omega)]; exact h.edge i h0 h1
    · rw [show i = n by omega, hhi, hlo (n - 1) (by omega)]; exact he (by omega)
theorem pick_some {z : Nat} {es : List Edg} {d : List Int} {on : List Bool} {w : List Int} {n : Nat} {k : Int} (k0 : 0 ≤ k) (k1 : k < z) (hf : fitsD d es on w n k.toNat = true) : ∃ q : Nat, q < z ∧ pickD d es on z w n = [(q : Int)] ∧ fitsD d es on w n q = true ∧ ∀ j, j < q → fitsD d es on w n j = false := by
  unfold pickD
  cases hx : (List.range z).find? (fitsD d es on w n) with
  | none =>
    have h1 := List.find?_eq_none.1 hx k.toNat (List.mem_range.2 (by omega))
    exact absurd hf h1
  | some q =>
    have h1 := List.find?_some hx
    have h2 := List.mem_of_find?_eq_some hx
    refine ⟨q, List.mem_range.1 h2, rfl, h1, fun j hj => ?_⟩
    have h3 := (List.find?_range_eq_some.1 hx).2.2 j hj
    simpa using h3
theorem fits_iff {d : List Int} {es : List Edg} {on : List Bool} {w : List Int} {n k : Nat} : fitsD d es on w n k = true ↔ onAt on (k : Int) = true ∧ dAt d (k : Int) = (n : Int) ∧ (0 < n → hasI (outS es (w.getD (n - 1) 0)) (k : Int) = true) := by
  unfold fitsD
  rw [Bool.and_eq_true, Bool.and_eq_true, Bool.or_eq_true, decide_eq_true_eq, decide_eq_true_eq]
  constructor
  · rintro ⟨a, b, c⟩
    exact ⟨a, b, fun h => c.elim (fun q => by omega) id⟩
  · rintro ⟨a, b, c⟩
    exact ⟨a, b, (Nat.eq_zero_or_pos n).elim .inl (fun h => .inr (c h))⟩
end Go.Proofs.Ytdildmfjekdlgaa
/- Distances: the reference's Put; the laws' content over distances. Plain facts. -/
namespace Go.Proofs.Ytdildmfjekdlgaa
open Go.RowKit
/-- Where a number stands in an ascending list, or would stand; the list with it. -/
def putAt (x : Int) : List Int → Nat
  | [] => 0
  | a :: m => if a < x then putAt x m + 1 else 0
def putI (l : List Int) (x : Int) : List Int := if putAt x l < l.length ∧ l.getD (putAt x l) 0 = x then l else l.take (putAt x l) ++ x :: l.drop (putAt x l)
theorem putAt_low (x : Int) : ∀ (l : List Int) (i : Nat), i < putAt x l → l.getD i 0 < x
  | [], i, h => absurd h (Nat.not_lt_zero _)
  | a :: m, i, h => by
    unfold putAt at h
    split at h
    · rename_i ha
      cases i with
      | zero => exact ha
      | succ i => rw [List.getD_cons_succ]; exact putAt_low x m i (by omega)
    · exact absurd h (Nat.not_lt_zero _)
theorem putAt_le (x : Int) : ∀ l : List Int, putAt x l ≤ l.length
  | [] => Nat.le_refl _
  | a :: m => by
    unfold putAt
    have := putAt_le x m
    split
    · simp only [List.length_cons]; omega
    · exact Nat.zero_le _
theorem putAt_at (x : Int) : ∀ l : List Int, putAt x l < l.length → ¬ l.getD (putAt x l) 0 < x
  | [], h => absurd h (Nat.not_lt_zero _)
  | a :: m, h => by
    unfold putAt at h ⊢
    split
    · rename_i ha
      rw [if_pos ha] at h
      rw [List.getD_cons_succ]
      exact putAt_at x m (by simpa using h)
    · rename_i ha
      simpa using ha
/-- From which keys distances are measured: seeds that are not gone. -/
def seedB (gn seeds : List Int) (k : Int) : Bool := hasI seeds k && !hasI gn k
/-- The distances of a graph. -/
def allD (G : Gr) (seeds : List Int) : List Int := roundsD G.es G.sz.toNat (initD G.sz.toNat (seedB G.gn seeds))
theorem good_inZ {G : Gr} (h : Good11 G) : ∀ e ∈ G.es, InZ G.sz.toNat e := fun e he => by
  have h1 := h.ends e he
  have h2 := h.lo
  unfold endsB keyB at h1
  rw [Bool.and_eq_true, Bool.and_eq_true, Bool.and_eq_true, Bool.and_eq_true, decide_eq_true_eq, decide_eq_true_eq, decide_eq_true_eq, decide_eq_true_eq] at h1
  exact ⟨h1.1.1, by omega, h1.2.1.1, by omega⟩
theorem allD_dist {G : Gr} (h : Good11 G) (seeds : List Int) : IsDist G.sz.toNat G.es (seedB G.gn seeds) (allD G seeds) := rounds_dist (good_inZ h)
end Go.Proofs.Ytdildmfjekdlgaa
/- Graphs: the walk of the reference's Without. -/
namespace Go.Proofs.Ytdildmfjekdlgaa
open Go.RowKit
end Go.Proofs.Ytdildmfjekdlgaa
/- The law of layer 11 on one graph, over any program that gives what layer 11 asks. -/
namespace Go.Proofs.Ytdildmfjekdlgaa
open Go.RowKit
theorem set_at {l : List Int} {z : Int} (h : setB l z = true) {i : Nat} (hi : i < l.length) : 0 ≤ l.getD i 0 ∧ l.getD i 0 < z ∧ (0 < i → l.getD (i - 1) 0 < l.getD i 0) := by
  unfold setB at h
  rw [List.all_eq_true] at h
  have h1 := h i (List.mem_range.2 hi)
  unfold okSet at h1
  rw [Bool.and_eq_true, Bool.and_eq_true, Bool.or_eq_true, decide_eq_true_eq, decide_eq_true_eq, decide_eq_true_eq, decide_eq_true_eq] at h1
  exact ⟨h1.1, h1.2.1, fun h0 => h1.2.2.elim (fun q => by omega) id⟩
theorem set_len {l : List Int} {z : Int} (h : setB l z = true) (hz : z ≤ 64) : l.length ≤ 64 := by
  have hk : ∀ i, i < l.length → (i : Int) ≤ l.getD i 0 ∧ l.getD i 0 < z := by
    intro i
    induction i with
    | zero =>
      intro hi
      have := set_at h hi
      exact ⟨by omega, this.2.1⟩
    | succ i ih =>
      intro hi
      have h1 := ih (by omega)
      have h2 := set_at h hi
      exact ⟨by have := h2.2.2 (by omega); rw [Nat.add_sub_cancel] at this; omega, h2.2.1⟩
  rcases Nat.eq_zero_or_pos l.length with h0 | h0
  · omega
  · have := hk (l.length - 1) (by omega)
    omega
theorem Good11.few {G : Gr} (h : Good11 G) : G.es.length ≤ 100000 ∧ G.gn.length ≤ 100000 := ⟨Nat.le_trans h.len (by decide), Nat.le_trans (set_len h.set h.hi) (by decide)⟩
end Go.Proofs.Ytdildmfjekdlgaa
/- Capacities: what they are; what the laws over them say. Plain facts. -/
namespace Go.Proofs.Ytdildmfjekdlgaa
open Go.RowKit
/-- A policy. -/
structure Pol where
  sd : List Int
  tb : List Int
  lv : Int
def okT (l : List Int) (i : Nat) : Bool := decide (1 ≤ l.getD i 0) && (decide (l.getD i 0 ≤ 1000) && (decide (i = 0) || decide (l.getD i 0 ≤ l.getD (i - 1) 0)))
def tabB (l : List Int) : Bool := (List.range l.length).all (okT l)
def polHead (z : Int) (p : Pol) : Bool := !decide (p.sd.length = 0) && (setB p.sd z && (decide (1 ≤ p.tb.length) && (decide (p.tb.length ≤ 8) && (decide (1 ≤ p.lv) && decide (p.lv ≤ 3)))))
def polB (z : Int) (p : Pol) : Bool := polHead z p && tabB p.tb
/-- What Check says. -/
def checkP (G : Gr) (p : Pol) : Int := if okG G = false then 14 else if polB G.sz p = false then 15 else 0
theorem tabB_no {l : List Int} {i : Nat} (hi : i < l.length) (h : okT l i = false) : tabB l = false := by
  unfold tabB
  rw [List.all_eq_false]
  exact ⟨i, List.mem_range.2 hi, by rw [h]; decide⟩
theorem tabB_yes {l : List Int} (h : ∀ i, i < l.length → okT l i = true) : tabB l = true := by
  unfold tabB
  rw [List.all_eq_true]
  exact fun i hi => h i (List.mem_range.1 hi)
structure GoodT (l : List Int) : Prop where
  few : l.length ≤ 8
  some_ : 1 ≤ l.length
  at_ : ∀ i, i < l.length → 1 ≤ l.getD i 0 ∧ l.getD i 0 ≤ 1000 ∧ (0 < i → l.getD i 0 ≤ l.getD (i - 1) 0)
structure GoodP (z : Int) (p : Pol) : Prop where
  ne : p.sd.length ≠ 0
  set : setB p.sd z = true
  tab : GoodT p.tb
  lo : 1 ≤ p.lv
  hi : p.lv ≤ 3
theorem polB_good {z : Int} {p : Pol} (h : polB z p = true) : GoodP z p := by
  unfold polB polHead at h
  simp only [Bool.and_eq_true, Bool.not_eq_true', decide_eq_true_eq, decide_eq_false_iff_not] at h
  obtain ⟨⟨h1, h2, h3, h4, h5, h6⟩, h7⟩ := h
  refine ⟨h1, h2, ⟨h4, h3, fun i hi => ?_⟩, h5, h6⟩
  unfold tabB at h7
  rw [List.all_eq_true] at h7
  have h8 := h7 i (List.mem_range.2 hi)
  unfold okT at h8
  simp only [Bool.and_eq_true, Bool.or_eq_true, decide_eq_true_eq] at h8
  exact ⟨h8.1, h8.2.1, fun h0 => h8.2.2.elim (fun h => absurd h (by omega)) id⟩
theorem good_polB {z : Int} {p : Pol} (h : GoodP z p) : polB z p = true := by
  unfold polB polHead
  simp only [Bool.and_eq_true, Bool.not_eq_true', decide_eq_true_eq, decide_eq_false_iff_not]
  refine ⟨⟨h.ne, h.set, h.tab.some_, h.tab.few, h.lo, h.hi⟩, tabB_yes fun i hi => ?_⟩
  obtain ⟨a, b, c⟩ := h.tab.at_ i hi
  unfold okT
  simp only [Bool.and_eq_true, Bool.or_eq_true, decide_eq_true_eq]
  refine ⟨a, b, ?_⟩
  by_cases h0 : i = 0
  · exact .inl h0
  · exact .inr (c (by omega))
theorem checkP_iff {G : Gr} {p : Pol} : checkP G p = 0 ↔ Good11 G ∧ GoodP G.sz p := by
  unfold checkP
  constructor
  · intro h
    split at h
    · exact absurd h (by decide)
    · rename_i h1
      split at h
      · exact absurd h (by decide)
      · rename_i h2
        exact ⟨(okG_iff G).1 (by simpa using h1), polB_good (by simpa using h2)⟩
  · rintro ⟨h1, h2⟩
    rw [if_neg (by rw [(okG_iff G).2 h1]; decide), if_neg (by rw [good_polB h2]; decide)]
theorem GoodT.mono {l : List Int} (h : GoodT l) : ∀ (j i : Nat), i ≤ j → j < l.length → l.getD j 0 ≤ l.getD i 0
  | 0, i, hi, _ => by rw [show i = 0 by omega]; exact Int.le_refl _
  | j + 1, i, hi, hj => by
    rcases Nat.eq_or_lt_of_le hi with e | e
    · rw [e]; exact Int.le_refl _
    · have h1 := h.mono j i (by omega) (by omega)
      have h2 := (h.at_ (j + 1) hj).2.2 (by omega)
      rw [show j + 1 - 1 = j by omega] at h2
      omega
/-- The capacity of a distance. -/
def capT (tb : List Int) (d : Int) : Int := if d < 0 then 0 else if d < (tb.length : Int) then tb.getD d.toNat 0 else 1
theorem capT_lo {tb : List Int} (h : GoodT tb) {d : Int} (hd : 0 ≤ d) : 1 ≤ capT tb d := by
  unfold capT
  rw [if_neg (by omega)]
  split
  · exact (h.at_ d.toNat (by omega)).1
  · exact Int.le_refl _
theorem capT_bd {tb : List Int} (h : GoodT tb) (d : Int) : 0 ≤ capT tb d ∧ capT tb d ≤ 1000 := by
  unfold capT
  split
  · omega
  · split
    · have := h.at_ d.toNat (by omega)
      omega
    · omega
theorem capT_zero {tb : List Int} (h : GoodT tb) (d : Int) : capT tb d = 0 ↔ d < 0 := by
  constructor
  · intro h0
    rcases Int.lt_or_le d 0 with q | q
    · exact q
    · have := capT_lo h q; omega
  · intro h0
    unfold capT
    rw [if_pos h0]
theorem capT_mono {tb : List Int} (h : GoodT tb) {d d' : Int} (h0 : 0 ≤ d') (hd : d' ≤ d) : capT tb d ≤ capT tb d' := by
  have h1 := capT_lo h h0
  by_cases h2 : d < (tb.length : Int)
  · unfold capT
    rw [if_neg (show ¬ d < 0 by omega), if_neg (show ¬ d' < 0 by omega), if_pos h2, if_pos (show d' < (tb.length : Int) by omega)]
    exact h.mono d.toNat d'.toNat (by omega) (by omega)
  · have e : capT tb d = 1 := by
      unfold capT
      rw [if_neg (show ¬ d < 0 by omega), if_neg h2]
    rw [e]
    exact h1
/-- The edges of a level and above, in a graph that is one. -/
theorem good_level {G : Gr} (h : Good11 G) (lv : Int) : Good11 (levelG G lv) :=
  ⟨h.lo, h.hi, Nat.le_trans (List.length_filter_le _ _) h.len, h.set, fun e he => h.ends e (List.mem_filter.1 he).1, fun e he => h.lev e (List.mem_filter.1 he).1, List.Pairwise.filter _ h.asc, fun e he => h.free e (List.mem_filter.1 he).1⟩
/-- The capacities of a graph's keys. -/
def distP (G : Gr) (p : Pol) : List Int := allD (levelG G p.lv) p.sd
def capsG (G : Gr) (p : Pol) : List Int := (distP G p).map (capT p.tb)
def capAt (G : Gr) (p : Pol) (k : Int) : Int := capT p.tb (dAt (distP G p) k)
theorem distP_dist {G : Gr} (h : Good11 G) (p : Pol) : IsDist G.sz.toNat (levelG G p.lv).es (seedB G.gn p.sd) (distP G p) := allD_dist (good_level h p.lv) p.sd
theorem capsG_len {G : Gr} (h : Good11 G) (p : Pol) : (capsG G p).length = G.sz.toNat := by
  unfold capsG
  rw [List.length_map]
  exact (distP_dist h p).len
theorem capsG_at {G : Gr} (h : Good11 G) (p : Pol) {k : Nat} (hk : k < G.sz.toNat) : (capsG G p).getD k 0 = capAt G p (k : Int) := by
  have hl := (distP_dist h p).len
  unfold capsG capAt dAt
  rw [List.getD_eq_getElem?_getD, List.getElem?_map, List.getD_eq_getElem?_getD, Int.toNat_natCast, List.getElem?_eq_getElem (by rw [hl]; exact hk)]
  rfl
theorem cap_dist {G G' : Gr} {p : Pol} (ht : GoodT p.tb) (g : Good11 G) (g' : Good11 G') (hs : G'.sz = G.sz) (hg : G'.gn = G.gn) (he : ∀ e ∈ G.es, e ∈ G'.es) {k : Int} (h0 : 0 ≤ k) (hk : k < G.sz) : capAt G p k ≤ capAt G' p k := by
  have a := distP_dist g p
  have b := distP_dist g' p
  have hlo := g.lo
  rw [hs, hg] at b
  have hl := a.low k h0 (by omega)
  unfold capAt
  by_cases hd : 0 ≤ dAt (distP G p) k
  · have h2 := a.more b (fun x hx => ⟨good_inZ (good_level g p.lv) x hx, x, List.mem_filter.2 ⟨he x (List.mem_filter.1 hx).1, (List.mem_filter.1 hx).2⟩, rfl, rfl⟩) (fun _ q => q) (dAt (distP G p) k).toNat k h0 (by omega) (by omega)
    exact capT_mono ht h2.1 (by omega)
  · rw [(capT_zero ht _).2 (by omega)]
    exact (capT_bd ht _).1
/-- The content of CapacityMore. -/
theorem cap_edge {G : Gr} {e : Edg} {p : Pol} (ht : GoodT p.tb) (h : (withG G e).2 = 0) {k : Int} (h0 : 0 ≤ k) (hk : k < G.sz) : capAt G p k ≤ capAt (withG G e).1 p k := by
  obtain ⟨g1, g2, g3, -⟩ := with_good h
  refine cap_dist ht g1 g2 (by rw [g3]) (by rw [g3]) (fun x hx => ?_) h0 hk
  rw [g3]
  rw [← List.take_append_drop (idxE e G.es) G.es, List.mem_append] at hx
  rw [List.mem_append, List.mem_cons]
  exact hx.elim .inl fun q => .inr (.inr q)
/-- Whether an edge of the level leads from a key to some keys; what a key adds to the bound; the bound. -/
def deceB (es : List Edg) (lv : Int) (keys : List Int) (k : Int) : Bool := es.any fun e => decide (e.fr = k) && (decide (lv ≤ e.lv) && hasI keys e.tu)
theorem deceB_snoc (es : List Edg) (lv : Int) (keys : List Int) (k : Int) (j : Nat) (h : j < es.length) : deceB (es.take (j + 1)) lv keys k = (deceB (es.take j) lv keys k || (decide ((es.getD j noEdg).fr = k) && (decide (lv ≤ (es.getD j noEdg).lv) && hasI keys (es.getD j noEdg).tu))) := by
  unfold deceB
  rw [List.take_add_one, List.getElem?_eq_getElem h, List.any_append, List.getD_eq_getElem?_getD, List.getElem?_eq_getElem h]
  simp
def addB (G : Gr) (p : Pol) (keys : List Int) (c k : Int) : Int := if hasI keys k then (if hasI p.sd k then c else 0) else if deceB G.es p.lv keys k then max 0 (c - 1) else 0
def sumB (G : Gr) (p : Pol) (keys : List Int) : Nat → Int
  | 0 => 0
  | k + 1 => sumB G p keys k + addB G p keys (capAt G p (k : Int)) (k : Int)
def boundG (G : Gr) (p : Pol) (keys : List Int) : Int := sumB G p keys G.sz.toNat
theorem addB_bd {G : Gr} {p : Pol} {keys : List Int} {c k : Int} (h0 : 0 ≤ c) (h1 : c ≤ 1000) : 0 ≤ addB G p keys c k ∧ addB G p keys c k ≤ 1000 := by
  unfold addB
  split
  · split <;> omega
  · split <;> omega
theorem sumB_bd {G : Gr} {p : Pol} (ht : GoodT p.tb) (keys : List Int) : ∀ k, 0 ≤ sumB G p keys k ∧ sumB G p keys k ≤ 1000 * (k : Int)
  | 0 => by unfold sumB; omega
  | k + 1 => by
    have h1 := sumB_bd (G := G) ht keys k
    have h2 := capT_bd ht (dAt (distP G p) (k : Int))
    have h3 := addB_bd (G := G) (p := p) (keys := keys) (k := (k : Int)) h2.1 h2.2
    unfold sumB capAt
    omega
end Go.Proofs.Ytdildmfjekdlgaa
/- Policies in memory; the reference's Of and CopyPolicy. -/
namespace Go.Proofs.Ytdildmfjekdlgaa
open Go.RowKit
theorem po_size : (Try.prog.info? 24).map (·.size) = some 3 := by kernel_rfl
/-- A policy as a value. -/
def PHold (w : World) (p : Pol) (v : Value) : Prop := ∃ A n c B m k, v = .agg #[.slice A n c, .slice B m k, .int .i64 p.lv] ∧ IRow w A n c p.sd ∧ IRow w B m k p.tb
theorem PHold.later {w w' : World} {p : Pol} {v : Value} (h : PHold w p v) (hb : Later w w') : PHold w' p v := by
  obtain ⟨A, n, c, B, m, k, rfl, h1, h2⟩ := h
  exact ⟨A, n, c, B, m, k, rfl, h1.later hb, h2.later hb⟩
def POwn (w : World) (b : Nat) (p : Pol) (v : Value) : Prop := ∃ e f, v = .agg #[e, f, .int .i64 p.lv] ∧ w.ownsRow b 3 1 e p.sd.length (intsV p.sd) ∧ w.ownsRow b 3 1 f p.tb.length (intsV p.tb)
theorem POwn.hold {w : World} {b : Nat} {p : Pol} {v : Value} (h : POwn w b p v) : PHold w p v := by
  obtain ⟨e, f, rfl, h1, h2⟩ := h
  obtain ⟨A, c, rfl, hr⟩ := Row.of_own h1
  obtain ⟨B, k, rfl, hs⟩ := Row.of_own h2
  exact ⟨_, _, _, _, _, _, rfl, hr, hs⟩
theorem POwn.later {w w' : World} {b : Nat} {p : Pol} {v : Value} (h : POwn w b p v) (hb : Below w.heap.size w w') : POwn w' b p v := by
  obtain ⟨e, f, rfl, h1, h2⟩ := h
  exact ⟨e, f, rfl, own_later h1 hb, own_later h2 hb⟩
theorem POwn.but {D : Nat} {w w' : World} {b : Nat} {p : Pol} {v : Value} (h : POwn w b p v) (hb : But D w w') (hD : D < b) : POwn w' b p v := by
  obtain ⟨e, g, rfl, h1, h2⟩ := h
  exact ⟨e, g, rfl, own_keepL h1 fun q hq => hb.block q (own_lt h1 q hq) (by have := own_ge h1 q hq; omega), own_keepL h2 fun q hq => hb.block q (own_lt h2 q hq) (by have := own_ge h2 q hq; omega)⟩
theorem POwn.base {w : World} {b b' : Nat} {p : Pol} {v : Value} (h : POwn w b p v) (hb : b' ≤ b) : POwn w b' p v := by
  obtain ⟨e, g, rfl, h1, h2⟩ := h
  exact ⟨e, g, rfl, own_base h1 hb, own_base h2 hb⟩
set_option maxRecDepth 100000 in
set_option maxHeartbeats 4000000 in
theorem refOf_any (p : Pol) (v : Value) (d : Int) (w : World) (h : PHold w p v) : Calls Try.prog 12 #[v, .int .i64 d] w (SaysL (.int .i64 (capT p.tb d)) w) := by
  obtain ⟨A, n, c, B, m, k, rfl, h1, h2⟩ := h
  have HN := Lib.hid (one_new w (.cells #[.slice A n c, .slice B m k, .int .i64 p.lv] 24))
  have HX : Hid ((w.alloc (.cells #[.slice A n c, .slice B m k, .int .i64 p.lv] 24)).heap[w.heap.size]? = some (.cells #[.slice A n c, .slice B m k, .int .i64 p.lv] 24 (0, 0))) := Lib.hid (heap_alloc_new _ _)
  have H1 := Lib.hid h1; have H2 := Lib.hid h2
  have hlm := h2.len
  have HC : Hid (capT p.tb d = if d < 0 then 0 else if d < (m : Int) then p.tb.getD d.toNat 0 else 1) := Lib.hid (by unfold capT; rw [hlm])
  generalize capT p.tb d = CT at *
  clear h1 h2 hlm
  go_enter Try.func12, Try.ntmps12
  go_upto_region 1 with fail
  generalize w.alloc (.cells #[.slice A n c, .slice B m k, .int .i64 p.lv] 24) = y0 at *
  by_cases h0 : d < 0
  · have d0 : decide (d < 0) = true := decide_eq_true h0
    have HE : Hid (CT = 0) := Lib.hid (by rw [HC.out, if_pos h0])
    clear h0
    go_wp2_with fail
    go_ret
    exact ⟨by rw [HE.out]; rfl, HN.out⟩
  · have d0 : decide (d < 0) = false := decide_eq_false h0
    obtain ⟨j, rfl⟩ : ∃ j : Nat, d = (j : Int) := ⟨d.toNat, by omega⟩
    have hc1 : y0.cell? ⟨w.heap.size, 1, none⟩ = some (.slice B m k) := (cell_of_row _ _ 1 _ _ _ HX.out).trans rfl
    by_cases h1 : j < m
    · have d1 : decide ((j : Int) < (m : Int)) = true := decide_eq_true (by omega)
      have d1n : decide (j < m) = true := decide_eq_true h1
      have h1z : (j : Int) < (m : Int) := by omega
      obtain ⟨bo, oo, hA, hcell⟩ := IRow.cell (H2.out.later HN.out) j h1
      subst hA
      have HE : Hid (CT = p.tb.getD j 0) := Lib.hid (by rw [HC.out, if_neg h0, if_pos h1z, Int.toNat_natCast])
      generalize p.tb.getD j 0 = x at *
      clear h0
      go_wp2_with fail
      go_ret
      exact ⟨by rw [HE.out]; rfl, HN.out⟩
    · have d1 : decide ((j : Int) < (m : Int)) = false := decide_eq_false (by omega)
      have d1n : decide (j < m) = false := decide_eq_false h1
      have HE : Hid (CT = 1) := Lib.hid (by rw [HC.out, if_neg h0, if_neg (by omega)])
      clear h0 h1
      go_wp2_with fail
      go_ret
      exact ⟨by rw [HE.out]; rfl, HN.out⟩
end Go.Proofs.Ytdildmfjekdlgaa
/- The reference's policy and Check. -/
namespace Go.Proofs.Ytdildmfjekdlgaa
open Go.RowKit
set_option maxRecDepth 100000 in
set_option maxHeartbeats 4000000 in
theorem refPol_any (G : Gr) (gv : Value) (p : Pol) (v : Value) (w : World) (hg : GHold w G gv) (h : PHold w p v) (hs : p.sd.length ≤ 100000) (ht : p.tb.length ≤ 100000) : Calls Try.prog 44 #[gv, v] w (SaysL (.bool (polB G.sz p)) w) := by
  obtain ⟨A9, n9, c9, B9, m9, k9, rfl, g1, g2⟩ := hg
  obtain ⟨A, n, c, B, m, k, rfl, h1, h2⟩ := h
  have HN := Lib.hid ((one_new w (.cells #[.int .i64 G.sz, .slice A9 n9 c9, .slice B9 m9 k9] 31)).trans ((one_new (w.alloc (.cells #[.int .i64 G.sz, .slice A9 n9 c9, .slice B9 m9 k9] 31)) (.cells #[.slice A n c, .slice B m k, .int .i64 p.lv] 24)).mono (by simp)))
  have HG : Hid (((w.alloc (.cells #[.int .i64 G.sz, .slice A9 n9 c9, .slice B9 m9 k9] 31)).alloc (.cells #[.slice A n c, .slice B m k, .int .i64 p.lv] 24)).heap[w.heap.size]? = some (.cells #[.int .i64 G.sz, .slice A9 n9 c9, .slice B9 m9 k9] 31 (0, 0))) := Lib.hid ((Below.heap_alloc _ _ _ (by simp)).trans (heap_alloc_new _ _))
  have HX : Hid (((w.alloc (.cells #[.int .i64 G.sz, .slice A9 n9 c9, .slice B9 m9 k9] 31)).alloc (.cells #[.slice A n c, .slice B m k, .int .i64 p.lv] 24)).heap[w.heap.size + 1]? = some (.cells #[.slice A n c, .slice B m k, .int .i64 p.lv] 24 (0, 0))) := Lib.hid (heap_alloc2_new _ _ _)
  have H1 := Lib.hid h1; have H2 := Lib.hid h2
  have hn : n ≤ 100000 := by rw [← h1.len]; exact hs
  have hm : m ≤ 100000 := by rw [← h2.len]; exact ht
  have hl1 := h1.len; have hl2 := h2.len
  have HPH : Hid (polHead G.sz p = (!decide (n = 0) && (setB p.sd G.sz && (decide (1 ≤ m) && (decide (m ≤ 8) && (decide (1 ≤ p.lv) && decide (p.lv ≤ 3))))))) := Lib.hid (by unfold polHead; rw [hl1, hl2])
  have HPB : Hid (polB G.sz p = (polHead G.sz p && tabB p.tb)) := Lib.hid rfl
  have HOK : Hid (∀ i, okT p.tb i = (decide (1 ≤ p.tb.getD i 0) && (decide (p.tb.getD i 0 ≤ 1000) && (decide (i = 0) || decide (p.tb.getD i 0 ≤ p.tb.getD (i - 1) 0))))) := Lib.hid fun _ => rfl
  have HTN : Hid (∀ i, i < m → okT p.tb i = false → tabB p.tb = false) := Lib.hid fun i hi h => tabB_no (by rw [hl2]; exact hi) h
  have HTY : Hid ((∀ i, i < m → okT p.tb i = true) → tabB p.tb = true) := Lib.hid fun h => tabB_yes fun i hi => h i (by rw [← hl2]; exact hi)
  generalize polB G.sz p = PBV at *
  generalize polHead G.sz p = PHV at *
  clear g1 g2 h1 h2 hs ht hl1 hl2
  go_enter Try.func44, Try.ntmps44
  go_upto_region 1 with fail
  generalize ((w.alloc (.cells #[.int .i64 G.sz, .slice A9 n9 c9, .slice B9 m9 k9] 31)).alloc (.cells #[.slice A n c, .slice B m k, .int .i64 p.lv] 24)) = y0 at *
  obtain ⟨gb, hgb⟩ : ∃ gb, w.heap.size = gb := ⟨_, rfl⟩
  obtain ⟨pb, hpb⟩ : ∃ pb, gb + 1 = pb := ⟨_, rfl⟩
  rw [hgb] at HX HG ⊢
  rw [hpb] at HX ⊢
  have HPS : Hid (pb < y0.heap.size ∧ gb < y0.heap.size) := Lib.hid ⟨(Array.getElem?_eq_some_iff.1 HX.out).1, (Array.getElem?_eq_some_iff.1 HG.out).1⟩
  clear hgb hpb
  have hz0 : y0.cell? ⟨gb, 0, none⟩ = some (.int .i64 G.sz) := (cell_of_row _ _ 0 _ _ _ HG.out).trans rfl
  have hc0 : y0.cell? ⟨pb, 0, none⟩ = some (.slice A n c) := (cell_of_row _ _ 0 _ _ _ HX.out).trans rfl
  have hc1 : y0.cell? ⟨pb, 1, none⟩ = some (.slice B m k) := (cell_of_row _ _ 1 _ _ _ HX.out).trans rfl
  have hc2 : y0.cell? ⟨pb, 2, none⟩ = some (.int .i64 p.lv) := (cell_of_row _ _ 2 _ _ _ HX.out).trans rfl
  by_cases c0 : n = 0
  · have d0 : ((n : Int) == 0) = true := by rw [c0]; rfl
    have d0' : decide ((n : Int) = 0) = true := decide_eq_true (by omega)
    have d0n : decide (n = 0) = true := decide_eq_true c0
    have HE : Hid (PBV = false) := Lib.hid (by rw [HPB.out, HPH.out, decide_eq_true c0, Bool.not_true, Bool.false_and, Bool.false_and])
    go_wp2_with fail
    go_ret
    exact ⟨by rw [HE.out]; rfl, HN.out⟩
  · have d0 : ((n : Int) == 0) = false := by rw [beq_eq_false_iff_ne]; omega
    have d0' : decide ((n : Int) = 0) = false := decide_eq_false (by omega)
    have d0n : decide (n = 0) = false := decide_eq_false c0
    have HSET := Lib.hid (set_any11 A n c p.sd G.sz y0 (H1.out.later HN.out) hn)
    rw [decide_eq_false c0, Bool.not_false, Bool.true_and] at HPH
    clear c0
    go_wp2_with fail
    refine HSET.out.mono ?_
    rintro e w1 ⟨rfl, hb⟩
    have HW1 := Lib.hid (HN.out.trans (hb.mono HN.out.size))
    replace HX : Hid (w1.heap[pb]? = some (.cells #[.slice A n c, .slice B m k, .int .i64 p.lv] 24 (0, 0))) := Lib.hid ((hb.block _ HPS.out.1).trans HX.out)
    replace HG : Hid (w1.heap[gb]? = some (.cells #[.int .i64 G.sz, .slice A9 n9 c9, .slice B9 m9 k9] 31 (0, 0))) := Lib.hid ((hb.block _ HPS.out.2).trans HG.out)
    clear hb HSET hc0 hc1 hc2 hz0 HPS HN
    have hz9 : w1.cell? ⟨gb, 0, none⟩ = some (.int .i64 G.sz) := (cell_of_row _ _ 0 _ _ _ HG.out).trans rfl
    have hc0 : w1.cell? ⟨pb, 0, none⟩ = some (.slice A n c) := (cell_of_row _ _ 0 _ _ _ HX.out).trans rfl
    have hc1 : w1.cell? ⟨pb, 1, none⟩ = some (.slice B m k) := (cell_of_row _ _ 1 _ _ _ HX.out).trans rfl
    have hc2 : w1.cell? ⟨pb, 2, none⟩ = some (.int .i64 p.lv) := (cell_of_row _ _ 2 _ _ _ HX.out).trans rfl
    clear hz9 hc0
    generalize setB p.sd G.sz = bs at *
    cases bs
    · rw [Bool.false_and] at HPH
      have HE : Hid (PBV = false) := Lib.hid (by rw [HPB.out, HPH.out, Bool.false_and])
      go_wp2_with fail
      go_ret
      exact ⟨by rw [HE.out]; rfl, HW1.out⟩
    · rw [Bool.true_and] at HPH
      by_cases c1 : 1 ≤ m
      · have d1 : decide ((m : Int) < 1) = false := decide_eq_false (by omega)
        have d1n : decide (m < 1) = false := decide_eq_false (by omega)
        rw [decide_eq_true c1, Bool.true_and] at HPH
        by_cases c2 : m ≤ 8
        · have d2 : decide ((m : Int) > 8) = false := decide_eq_false (by omega)
          have d2' : decide ((8 : Int) < (m : Int)) = false := d2
          have d2n : decide (8 < m) = false := decide_eq_false (by omega)
          rw [decide_eq_true c2, Bool.true_and] at HPH
          by_cases c3 : 1 ≤ p.lv
          · have d3 : decide (p.lv < 1) = false := decide_eq_false (by omega)
            rw [decide_eq_true c3, Bool.true_and] at HPH
            by_cases c4 : p.lv ≤ 3
            · have d4 : decide (p.lv > 3) = false := decide_eq_false (by omega)
              have d4' : decide (3 < p.lv) = false := d4
              rw [decide_eq_true c4] at HPH
              clear c1 c3 c4
              have hm8 : m ≤ 8 := c2
              clear c2
              go_upto_region 3 with fail
              clear d0 d0' d0n d1 d1n d2 d2' d2n d3 d4 d4' hc1 hc2
              go_wp2_with fail
              go_loopw [5] (fun i wr => ∃ j : Nat, j ≤ m ∧ i = .int .i64 j ∧ Hid ((∀ q, q < j → okT p.tb q = true) ∧ Below w1.heap.size w1 wr)) (fun i _ => m - (intOf i).toNat)
              case atStart => exact ⟨0, Nat.zero_le _, rfl, Lib.hid ⟨fun q h => absurd h (Nat.not_lt_zero _), Below.refl _ _⟩⟩
              case round =>
                obtain ⟨j, hj, rfl, HQ⟩ := hrel
                have HXr : Hid (wr.heap[pb]? = some (.cells #[.slice A n c, .slice B m k, .int .i64 p.lv] 24 (0, 0))) := Lib.hid ((HQ.out.2.block _ (Array.getElem?_eq_some_iff.1 HX.out).1).trans HX.out)
                have hc1 : wr.cell? ⟨pb, 1, none⟩ = some (.slice B m k) := (cell_of_row _ _ 1 _ _ _ HXr.out).trans rfl
                by_cases hlt : j < m
                · have hlt2 : (j : Int) < (m : Int) := by omega
                  obtain ⟨bo, oo, hA, -⟩ := IRow.cell (H2.out.later (HW1.out.trans (HQ.out.2.mono HW1.out.size))) j hlt
                  subst hA
                  go_upto_region 6 with fail
                  clear hc1
                  refine wp_region_grow (by kernel_rfl) Later Later.refl (fun _ _ _ => Later.trans) [0, 1, 2, 3, 4, 5, 6, 7, 8, 9, 10, 11, 12, 13, 14, 15, 16, 17, 18, 19, 20, 21, 22, 23, 24, 25, 26, 27, 28, 29, 30, 31] [] (by kernel_rfl) (by kernel_rfl) (by kernel_rfl) ?_
                  simp only [List.map_cons, List.map_nil, pick, List.getD_cons_zero, List.getD_cons_succ]
                  have HBr : Hid (Below w.heap.size w wr.drew) := Lib.hid (HW1.out.trans ((HQ.out.2.drew).mono HW1.out.size))
                  have HQ2 : Hid (Below w1.heap.size w1 wr.drew) := Lib.hid HQ.out.2.drew
                  have HK := Lib.hid HQ.out.1
                  have HXz : Hid (wr.drew.heap[pb]? = some (.cells #[.slice A n c, .slice (some ⟨bo, oo, none⟩) m k, .int .i64 p.lv] 24 (0, 0))) := Lib.hid HXr.out
                  have HL7 : Hid (IRow wr.drew (some ⟨bo, oo, none⟩) m k p.tb) := Lib.hid (H2.out.later (HBr.out))
                  clear HQ HXr
                  generalize wr.drew = z0 at *
                  have hfb : ∀ x, (fut Later z0 x).cell? ⟨pb, 1, none⟩ = some (.slice (some ⟨bo, oo, none⟩) m k) := fun x => (cell_of_row _ _ 1 _ _ _ (((fut_ok Later.refl z0 x).block pb (Array.getElem?_eq_some_iff.1 HXz.out).1).trans HXz.out)).trans rfl
                  have hfx := irow_fut HL7.out j hlt
                  have HOKj := Lib.hid (HOK.out j)
                  rcases Nat.eq_zero_or_pos j with h0 | h0
                  · have e0 : decide ((j : Int) > 0) = false := decide_eq_false (by omega)
                    have e0' : decide ((0 : Int) < (j : Int)) = false := e0
                    have e0n : decide (0 < j) = false := decide_eq_false (by omega)
                    rw [decide_eq_true h0, Bool.true_or, Bool.and_true] at HOKj
                    clear h0
                    generalize p.tb.getD j 0 = x at *
                    by_cases a1 : 1 ≤ x
                    · have f1 : decide (x < 1) = false := decide_eq_false (by omega)
                      by_cases a2 : x ≤ 1000
                      · have f2 : decide (x > 1000) = false := decide_eq_false (by omega)
                        have f2' : decide (1000 < x) = false := f2
                        rw [decide_eq_true a1, decide_eq_true a2, Bool.true_and] at HOKj
                        clear a1 a2
                        have HOKJ : Hid (okT p.tb j = true) := Lib.hid HOKj.out
                        refine wpGrow_nil ?_
                        repeat (go_big_quiet_step (fail))
                        refine wpQuiet_nil ?_
                        clear hfb hfx
                        go_wp2_with fail
                        exact ⟨⟨j + 1, hlt, by go_num, Lib.hid ⟨fun q hq => (Nat.lt_succ_iff_lt_or_eq.1 hq).elim (HK.out q) (fun e => by rw [e]; exact HOKJ.out), HQ2.out⟩⟩, by simp [intOf]; omega⟩
                      · have f2 : decide (x > 1000) = true := decide_eq_true (by omega)
                        have f2' : decide (1000 < x) = true := f2
                        have HE : Hid (PBV = false) := Lib.hid (by rw [HPB.out, HTN.out j hlt (by rw [HOKj.out, decide_eq_false a2, Bool.and_false]), Bool.and_false])
                        clear a1 a2
                        refine wpGrow_nil ?_
                        repeat (go_big_quiet_step (fail))
                        refine wpQuiet_nil ?_
                        clear hfb hfx
                        go_wp2_with fail
                        go_ret
                        exact ⟨by rw [HE.out]; rfl, HBr.out⟩
                    · have f1 : decide (x < 1) = true := decide_eq_true (by omega)
                      have HE : Hid (PBV = false) := Lib.hid (by rw [HPB.out, HTN.out j hlt (by rw [HOKj.out, decide_eq_false a1, Bool.false_and]), Bool.and_false])
                      clear a1
                      refine wpGrow_nil ?_
                      repeat (go_big_quiet_step (fail))
                      refine wpQuiet_nil ?_
                      clear hfb hfx
                      go_wp2_with fail
                      go_ret
                      exact ⟨by rw [HE.out]; rfl, HBr.out⟩
                  · obtain ⟨q, hq⟩ : ∃ q, j = q + 1 := ⟨j - 1, by omega⟩
                    have e0 : decide ((j : Int) > 0) = true := decide_eq_true (by omega)
                    have e0' : decide ((0 : Int) < (j : Int)) = true := e0
                    have e0n : decide (0 < j) = true := decide_eq_true h0
                    have e1 : (0 : Int) ≤ (j : Int) - 1 := by omega
                    have e2 : (j : Int) - 1 < (m : Int) := by omega
                    have e3 : ((j : Int) - 1).toNat = q := by omega
                    have hfy := irow_fut HL7.out q (by omega)
                    rw [decide_eq_false (show ¬ j = 0 by omega), Bool.false_or, show j - 1 = q by omega] at HOKj
                    clear h0 hq
                    generalize p.tb.getD j 0 = x at *
                    generalize p.tb.getD q 0 = y at *
                    by_cases a1 : 1 ≤ x
                    · have f1 : decide (x < 1) = false := decide_eq_false (by omega)
                      by_cases a2 : x ≤ 1000
                      · have f2 : decide (x > 1000) = false := decide_eq_false (by omega)
                        have f2' : decide (1000 < x) = false := f2
                        rw [decide_eq_true a1, decide_eq_true a2, Bool.true_and, Bool.true_and] at HOKj
                        clear a1 a2
                        by_cases a3 : x ≤ y
                        · have f3 : decide (x > y) = false := decide_eq_false (by omega)
                          have f3' : decide (y < x) = false := f3
                          rw [decide_eq_true a3] at HOKj
                          clear a3
                          have HOKJ : Hid (okT p.tb j = true) := Lib.hid HOKj.out
                          refine wpGrow_nil ?_
                          repeat (go_big_quiet_step (fail))
                          refine wpQuiet_nil ?_
                          clear hfb hfx hfy
                          go_wp2_with fail
                          exact ⟨⟨j + 1, hlt, by go_num, Lib.hid ⟨fun q hq => (Nat.lt_succ_iff_lt_or_eq.1 hq).elim (HK.out q) (fun e => by rw [e]; exact HOKJ.out), HQ2.out⟩⟩, by simp [intOf]; omega⟩
                        · have f3 : decide (x > y) = true := decide_eq_true (by omega)
                          have f3' : decide (y < x) = true := f3
                          have HE : Hid (PBV = false) := Lib.hid (by rw [HPB.out, HTN.out j hlt (by rw [HOKj.out, decide_eq_false a3]), Bool.and_false])
                          clear a3
                          refine wpGrow_nil ?_
                          repeat (go_big_quiet_step (fail))
                          refine wpQuiet_nil ?_
                          clear hfb hfx hfy
                          go_wp2_with fail
                          go_ret
                          exact ⟨by rw [HE.out]; rfl, HBr.out⟩
                      · have f2 : decide (x > 1000) = true := decide_eq_true (by omega)
                        have f2' : decide (1000 < x) = true := f2
                        have HE : Hid (PBV = false) := Lib.hid (by rw [HPB.out, HTN.out j hlt (by rw [HOKj.out, decide_eq_false a2, Bool.false_and, Bool.and_false]), Bool.and_false])
                        clear a1 a2
                        refine wpGrow_nil ?_
                        repeat (go_big_quiet_step (fail))
                        refine wpQuiet_nil ?_
                        clear hfb hfx hfy
                        go_wp2_with fail
                        go_ret
                        exact ⟨by rw [HE.out]; rfl, HBr.out⟩
                    · have f1 : decide (x < 1) = true := decide_eq_true (by omega)
                      have HE : Hid (PBV = false) := Lib.hid (by rw [HPB.out, HTN.out j hlt (by rw [HOKj.out, decide_eq_false a1, Bool.false_and]), Bool.and_false])
                      clear a1
                      refine wpGrow_nil ?_
                      repeat (go_big_quiet_step (fail))
                      refine wpQuiet_nil ?_
                      clear hfb hfx hfy
                      go_wp2_with fail
                      go_ret
                      exact ⟨by rw [HE.out]; rfl, HBr.out⟩
                · have hlt2 : ¬ (j : Int) < (m : Int) := by omega
                  have HE : Hid (PBV = true) := Lib.hid (by rw [HPB.out, HPH.out, Bool.true_and]; exact HTY.out fun i hi => HQ.out.1 i (by omega))
                  have HQ2 := Lib.hid HQ.out.2
                  clear HQ
                  go_wp2_with fail
                  go_ret
                  exact ⟨by rw [HE.out]; rfl, HW1.out.trans (HQ2.out.mono HW1.out.size)⟩
            · have d4 : decide (p.lv > 3) = true := decide_eq_true (by omega)
              have d4' : decide (3 < p.lv) = true := d4
              have HE : Hid (PBV = false) := Lib.hid (by rw [HPB.out, HPH.out, decide_eq_false c4, Bool.false_and])
              go_wp2_with fail
              go_ret
              exact ⟨by rw [HE.out]; rfl, HW1.out⟩
          · have d3 : decide (p.lv < 1) = true := decide_eq_true (by omega)
            have HE : Hid (PBV = false) := Lib.hid (by rw [HPB.out, HPH.out, decide_eq_false c3, Bool.false_and, Bool.false_and])
            go_wp2_with fail
            go_ret
            exact ⟨by rw [HE.out]; rfl, HW1.out⟩
        · have d2 : decide ((m : Int) > 8) = true := decide_eq_true (by omega)
          have d2' : decide ((8 : Int) < (m : Int)) = true := d2
          have d2n : decide (8 < m) = true := decide_eq_true (by omega)
          have HE : Hid (PBV = false) := Lib.hid (by rw [HPB.out, HPH.out, decide_eq_false c2, Bool.false_and, Bool.false_and])
          go_wp2_with fail
          go_ret
          exact ⟨by rw [HE.out]; rfl, HW1.out⟩
      · have d1 : decide ((m : Int) < 1) = true := decide_eq_true (by omega)
        have d1n : decide (m < 1) = true := decide_eq_true (by omega)
        have HE : Hid (PBV = false) := Lib.hid (by rw [HPB.out, HPH.out, decide_eq_false c1, Bool.false_and, Bool.false_and])
        go_wp2_with fail
        go_ret
        exact ⟨by rw [HE.out]; rfl, HW1.out⟩
set_option maxRecDepth 100000 in
set_option maxHeartbeats 4000000 in
theorem refChkP_any (G : Gr) (gv : Value) (p : Pol) (v : Value) (w : World) (hg : GHold w G gv) (h : PHold w p v) (he : G.es.length ≤ 100000) (hgn : G.gn.length ≤ 100000) (hs : p.sd.length ≤ 100000) (ht : p.tb.length ≤ 100000) : Calls Try.prog 26 #[gv, v] w (SaysL (.int .i64 (checkP G p)) w) := by
  have HGH := Lib.hid hg; have HPH := Lib.hid h
  obtain ⟨A9, n9, c9, B9, m9, k9, rfl, g1, g2⟩ := hg
  obtain ⟨A, n, c, B, m, k, rfl, h1, h2⟩ := h
  have HN := Lib.hid ((one_new w (.cells #[.int .i64 G.sz, .slice A9 n9 c9, .slice B9 m9 k9] 31)).trans ((one_new (w.alloc (.cells #[.int .i64 G.sz, .slice A9 n9 c9, .slice B9 m9 k9] 31)) (.cells #[.slice A n c, .slice B m k, .int .i64 p.lv] 24)).mono (by simp)))
  have HG : Hid (((w.alloc (.cells #[.int .i64 G.sz, .slice A9 n9 c9, .slice B9 m9 k9] 31)).alloc (.cells #[.slice A n c, .slice B m k, .int .i64 p.lv] 24)).heap[w.heap.size]? = some (.cells #[.int .i64 G.sz, .slice A9 n9 c9, .slice B9 m9 k9] 31 (0, 0))) := Lib.hid ((Below.heap_alloc _ _ _ (by simp)).trans (heap_alloc_new _ _))
  have HX : Hid (((w.alloc (.cells #[.int .i64 G.sz, .slice A9 n9 c9, .slice B9 m9 k9] 31)).alloc (.cells #[.slice A n c, .slice B m k, .int .i64 p.lv] 24)).heap[w.heap.size + 1]? = some (.cells #[.slice A n c, .slice B m k, .int .i64 p.lv] 24 (0, 0))) := Lib.hid (heap_alloc2_new _ _ _)
  have H1 := Lib.hid h1; have H2 := Lib.hid h2
  have HC : Hid (checkP G p = if okG G = false then 14 else if polB G.sz p = false then 15 else 0) := Lib.hid rfl
  have HCG : Hid (checkG G = if okG G then 0 else 14) := Lib.hid rfl
  have HC1 := fun y (hb : Below w.heap.size w y) => gcheck_any G (.agg #[.int .i64 G.sz, .slice A9 n9 c9, .slice B9 m9 k9]) y (HGH.out.later hb) he hgn
  have HC2 := fun y (hb : Below w.heap.size w y) => refPol_any G (.agg #[.int .i64 G.sz, .slice A9 n9 c9, .slice B9 m9 k9]) p (.agg #[.slice A n c, .slice B m k, .int .i64 p.lv]) y (HGH.out.later hb) (HPH.out.later hb) hs ht
  have HC1 := Lib.hid HC1; have HC2 := Lib.hid HC2
  generalize checkP G p = CP at *
  generalize checkG G = CG at *
  clear g1 g2 h1 h2 he hgn hs ht HGH HPH H1 H2
  go_enter Try.func26, Try.ntmps26
  go_upto_region 1 with fail
  generalize ((w.alloc (.cells #[.int .i64 G.sz, .slice A9 n9 c9, .slice B9 m9 k9] 31)).alloc (.cells #[.slice A n c, .slice B m k, .int .i64 p.lv] 24)) = y0 at *
  obtain ⟨gb, hgb⟩ : ∃ gb, w.heap.size = gb := ⟨_, rfl⟩
  obtain ⟨pb, hpb⟩ : ∃ pb, gb + 1 = pb := ⟨_, rfl⟩
  rw [hgb] at HX HG ⊢
  rw [hpb] at HX ⊢
  have HPS : Hid (pb < y0.heap.size ∧ gb < y0.heap.size) := Lib.hid ⟨(Array.getElem?_eq_some_iff.1 HX.out).1, (Array.getElem?_eq_some_iff.1 HG.out).1⟩
  clear hgb hpb
  have HCC := Lib.hid (HC1.out y0 HN.out)
  go_wp2_with (refine wpList_load_row rfl 31 (.tmp 2) rfl gb rfl 31 #[.int .i64 G.sz, .slice A9 n9 c9, .slice B9 m9 k9] (0, 0) _ HG.out Try.underlying31 rfl gr_size ?_)
  refine HCC.out.mono ?_
  rintro e w1 ⟨rfl, hb⟩
  have HW1 := Lib.hid (HN.out.trans (hb.mono HN.out.size))
  replace HX : Hid (w1.heap[pb]? = some (.cells #[.slice A n c, .slice B m k, .int .i64 p.lv] 24 (0, 0))) := Lib.hid ((hb.block _ HPS.out.1).trans HX.out)
  replace HG : Hid (w1.heap[gb]? = some (.cells #[.int .i64 G.sz, .slice A9 n9 c9, .slice B9 m9 k9] 31 (0, 0))) := Lib.hid ((hb.block _ HPS.out.2).trans HG.out)
  clear hb HCC HPS HN
  generalize okG G = bg at *
  cases bg
  · rw [if_neg (by decide)] at HCG
    rw [if_pos rfl] at HC
    rw [HCG.out]
    go_wp2_with fail
    go_ret
    exact ⟨by rw [HC.out]; rfl, HW1.out⟩
  · rw [if_pos rfl] at HCG
    rw [if_neg (by decide)] at HC
    rw [HCG.out]
    have HCC := Lib.hid (HC2.out w1 HW1.out)
    go_wp2_with (first | (refine wpList_load_row rfl 31 (.tmp 2) rfl gb rfl 31 #[.int .i64 G.sz, .slice A9 n9 c9, .slice B9 m9 k9] (0, 0) _ HG.out Try.underlying31 rfl gr_size ?_) | (refine wpList_load_row rfl 24 (.tmp 3) rfl pb rfl 24 #[.slice A n c, .slice B m k, .int .i64 p.lv] (0, 0) _ HX.out Try.underlying24 rfl po_size ?_))
    refine HCC.out.mono ?_
    rintro e w2 ⟨rfl, hb⟩
    have HW2 := Lib.hid (HW1.out.trans (hb.mono HW1.out.size))
    clear hb HCC
    generalize polB G.sz p = bp at *
    cases bp
    · rw [if_pos rfl] at HC
      go_wp2_with fail
      go_ret
      exact ⟨by rw [HC.out]; rfl, HW2.out⟩
    · rw [if_neg (by decide)] at HC
      go_wp2_with fail
      go_ret
      exact ⟨by rw [HC.out]; rfl, HW2.out⟩
end Go.Proofs.Ytdildmfjekdlgaa
/- Distances: what lies on a shortest way to a key, told by the distances to the key. Plain facts. -/
namespace Go.Proofs.Ytdildmfjekdlgaa
open Go.RowKit
/-- An edge turned round. -/
def revE (e : Edg) : Edg := ⟨e.tu, e.fr, e.lv⟩
/-- The way round by a key is not shorter. -/
theorem IsDist.round {z : Nat} {es : List Edg} {sd : Int → Bool} {key : Int} {d b : List Int} (h : IsDist z es sd d) (hb : IsDist z (es.map revE) (fun k => decide (k = key)) b) (hz : ∀ e ∈ es, InZ z e) : ∀ (n : Nat) (k : Int), 0 ≤ k → k < z → dAt b k = (n : Int) → 0 ≤ dAt d k → 0 ≤ dAt d key ∧ dAt d key ≤ dAt d k + n
  | 0, k, h0, hk, hn, hd => by
    have h1 := (hb.zero k h0 hk).1 hn
    rw [decide_eq_true_eq] at h1
    rw [← h1]
    exact ⟨hd, by simp⟩
  | n + 1, k, h0, hk, hn, hd => by
    obtain ⟨e, he, e1, e2, e3, e4⟩ := hb.step k h0 hk n (by rw [hn]; omega)
    obtain ⟨x, hx, rfl⟩ := List.mem_map.1 he
    obtain ⟨a0, a1, a2, a3⟩ := hz x hx
    have h1 := h.edge x hx a0 a1 a2 a3 (by rw [show x.fr = k from e1]; exact hd)
    rw [show x.fr = k from e1] at h1
    have h2 := IsDist.round h hb hz n x.tu a2 a3 e4 h1.1
    omega
end Go.Proofs.Ytdildmfjekdlgaa
