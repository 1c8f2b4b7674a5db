import Derived.Test.YtdildmfjekdlgaaPackAN
import Derived.Test.YtdildmfjekdlgaaGGraphP
import Derived.Test.YtdildmfjekdlgaaPackAK
import Derived.Test.YtdildmfjekdlgaaGWithP
import Derived.Test.YtdildmfjekdlgaaGCheckP
/- Plain facts on how many edges leave and come. -/
namespace Go.Proofs.Ytdildmfjekdlgaa
open Go.RowKit
theorem Good11.keys {G : Gr} (h : Good11 G) : (∀ e ∈ G.es, 0 ≤ e.fr ∧ e.fr < G.sz) ∧ (∀ e ∈ G.es, 0 ≤ e.tu ∧ e.tu < G.sz) := by
  have hk : ∀ e ∈ G.es, (0 ≤ e.fr ∧ e.fr < G.sz) ∧ (0 ≤ e.tu ∧ e.tu < G.sz) := fun e he => by
    have h1 := h.ends e he
    unfold endsB keyB at h1
    rw [Bool.and_eq_true, Bool.and_eq_true, Bool.and_eq_true, Bool.and_eq_true, decide_eq_true_eq, decide_eq_true_eq, decide_eq_true_eq, decide_eq_true_eq] at h1
    exact ⟨h1.1, h1.2.1⟩
  exact ⟨fun e he => (hk e he).1, fun e he => (hk e he).2⟩
theorem GOwn.but {D : Nat} {w w' : World} {B : Nat} {G : Gr} {v : Value} (h : GOwn w B G v) (hb : But D w w') (hD : D < B) : GOwn w' B G v := by
  obtain ⟨e, g, rfl, h1, h2⟩ := h
  exact ⟨e, g, rfl, own_keepL h1 fun q hq => hb.block q (own_lt h1 q hq) (by have := own_ge h1 q hq; omega), own_keepL h2 fun q hq => hb.block q (own_lt h2 q hq) (by have := own_ge h2 q hq; omega)⟩
end Go.Proofs.Ytdildmfjekdlgaa
/- Distances: the reference's way: what is marked, what is picked. Plain facts. -/
namespace Go.Proofs.Ytdildmfjekdlgaa
open Go.RowKit
def onAt (on : List Bool) (k : Int) : Bool := on.getD k.toNat false
def markD (d : List Int) (n : Int) (on : List Bool) (e : Edg) : List Bool := if onAt on e.tu = true ∧ dAt d e.tu = n ∧ dAt d e.fr = n - 1 then on.set e.fr.toNat true else on
def marksD (d : List Int) (es : List Edg) : Nat → List Bool → List Bool
  | 0, on => on
  | n + 1, on => marksD d es n (es.foldl (markD d ((n : Int) + 1)) on)
/-- What lies on a shortest way to a key. -/
inductive Rch (d : List Int) (es : List Edg) (key : Int) : Int → Prop
  | here : Rch d es key key
  | back {e : Edg} (h : e ∈ es) (hr : Rch d es key e.tu) (hd : dAt d e.fr = dAt d e.tu - 1) (h0 : 0 ≤ dAt d e.fr) : Rch d es key e.fr
theorem Rch.le {d : List Int} {es : List Edg} {key k : Int} (h : Rch d es key k) : dAt d k ≤ dAt d key ∧ (dAt d k = dAt d key → k = key) := by
  induction h with
  | here => exact ⟨Int.le_refl _, fun _ => rfl⟩
  | back h hr hd h0 ih => exact ⟨by have := ih.1; omega, fun q => by have := ih.1; omega⟩
theorem Rch.step {d : List Int} {es : List Edg} {key k : Int} (h : Rch d es key k) (hlt : dAt d k < dAt d key) : ∃ e ∈ es, e.fr = k ∧ Rch d es key e.tu ∧ dAt d e.tu = dAt d k + 1 := by
  cases h with
  | here => omega
  | back h hr hd h0 => exact ⟨_, h, rfl, hr, by omega⟩
theorem onAt_set {on : List Bool} {t : Int} (ht : t.toNat < on.length) (k : Int) : onAt (on.set t.toNat true) k = if t.toNat = k.toNat then true else onAt on k := by
  unfold onAt
  rw [List.getD_eq_getElem?_getD, List.getElem?_set, List.getD_eq_getElem?_getD]
  split
  · first | (rw [if_pos ht]; rfl) | rfl
  · rfl
/-- What one level's marks keep. -/
structure OnD (d : List Int) (es : List Edg) (z : Nat) (key : Int) (on : List Bool) : Prop where
  len : on.length = z
  only : ∀ k : Int, 0 ≤ k → k < z → onAt on k = true → Rch d es key k
theorem mark_fold {d : List Int} {es : List Edg} {z : Nat} {key n : Int} (hn : 1 ≤ n) (hz : ∀ e ∈ es, InZ z e) : ∀ (q : List Edg) (on : List Bool), (∀ e ∈ q, e ∈ es) → OnD d es z key on →
    OnD d es z key (q.foldl (markD d n) on) ∧ (∀ k : Int, onAt on k = true → onAt (q.foldl (markD d n) on) k = true) ∧ (∀ e ∈ q, onAt on e.tu = true → dAt d e.tu = n → dAt d e.fr = n - 1 → onAt (q.foldl (markD d n) on) e.fr = true)
  | [], on, _, h => ⟨h, fun _ q => q, fun _ q => nomatch q⟩
  | e :: q, on, hq, h => by
    have he := hq e (List.mem_cons_self ..)
    obtain ⟨f0, f1, t0, t1⟩ := hz e he
    have hs : OnD d es z key (markD d n on e) ∧ (∀ k : Int, onAt on k = true → onAt (markD d n on e) k = true) ∧ (onAt on e.tu = true → dAt d e.tu = n → dAt d e.fr = n - 1 → onAt (markD d n on e) e.fr = true) := by
      unfold markD
      split
      · rename_i hc
        have hl : e.fr.toNat < on.length := by rw [h.len]; omega
        refine ⟨⟨by rw [List.length_set]; exact h.len, fun k h0 hk ho => ?_⟩, fun k ho => ?_, fun _ _ _ => ?_⟩
        · rw [onAt_set hl] at ho
          split at ho
          · rename_i hh
            have hk2 : k = e.fr := by omega
            rw [hk2]
            exact .back he (h.only e.tu t0 t1 hc.1) (by rw [hc.2.1, hc.2.2]) (by rw [hc.2.2]; omega)
          · exact h.only k h0 hk ho
        · rw [onAt_set hl]
          split
          · rfl
          · exact ho
        · rw [onAt_set hl, if_pos rfl]
      · rename_i hc
        exact ⟨h, fun k ho => ho, fun a b c => absurd ⟨a, b, c⟩ hc⟩
    obtain ⟨h1, h2, h3⟩ := mark_fold hn hz q (markD d n on e) (fun x hx => hq x (List.mem_cons_of_mem _ hx)) hs.1
    rw [List.foldl_cons]
    refine ⟨h1, fun k ho => h2 k (hs.2.1 k ho), fun x hx a b c => ?_⟩
    rcases List.mem_cons.1 hx with rfl | hx
    · exact h2 _ (hs.2.2 a b c)
    · exact h3 x hx (hs.2.1 _ a) b c
theorem marks_all {d : List Int} {es : List Edg} {z : Nat} {key : Int} (hz : ∀ e ∈ es, InZ z e) : ∀ (n : Nat) (on : List Bool), OnD d es z key on → (∀ k : Int, Rch d es key k → (n : Int) ≤ dAt d k → onAt on k = true) → (n : Int) ≤ dAt d key →
    OnD d es z key (marksD d es n on) ∧ ∀ k : Int, Rch d es key k → 0 ≤ dAt d k → onAt (marksD d es n on) k = true
  | 0, on, h, ha, _ => ⟨h, fun k hr h0 => ha k hr (by simpa using h0)⟩
  | n + 1, on, h, ha, hk => by
    unfold marksD
    obtain ⟨h1, h2, h3⟩ := mark_fold (n := (n : Int) + 1) (by omega) hz es on (fun _ q => q) h
    refine marks_all hz n _ h1 (fun k hr hn => ?_) (by omega)
    rcases Int.lt_or_le (dAt d k) ((n : Int) + 1) with h4 | h4
    · have h5 : dAt d k = (n : Int) := by omega
      obtain ⟨e, he, hf, ht, hd⟩ := hr.step (by omega)
      have h6 := ha e.tu ht (by omega)
      have h7 := h3 e he h6 (by omega) (by rw [hf]; omega)
      rwa [hf] at h7
    · exact h2 k (ha k hr (by omega))
/-- The marks at the start: the key alone. -/
def on0 (z : Nat) (key : Int) : List Bool := (List.replicate z false).set key.toNat true
theorem on0_at {z : Nat} {key : Int} (h0 : 0 ≤ key) (hk : key < z) {k : Int} (hk0 : 0 ≤ k) : onAt (on0 z key) k = decide (k = key) := by
  unfold on0
  rw [onAt_set (by rw [List.length_replicate]; omega)]
  by_cases h : k = key
  · rw [if_pos (by rw [h]), decide_eq_true h]
  · rw [if_neg (by omega), decide_eq_false h]
    unfold onAt
    rw [List.getD_eq_getElem?_getD, List.getElem?_replicate]
    split <;> rfl
def marked (d : List Int) (es : List Edg) (z : Nat) (key : Int) : List Bool := marksD d es (dAt d key).toNat (on0 z key)
theorem marked_iff {d : List Int} {es : List Edg} {z : Nat} {key : Int} (hz : ∀ e ∈ es, InZ z e) (h0 : 0 ≤ key) (hk : key < z) (hd : 0 ≤ dAt d key) : (marked d es z key).length = z ∧ (∀ k : Int, 0 ≤ k → k < z → onAt (marked d es z key) k = true → Rch d es key k) ∧ (∀ k : Int, Rch d es key k → 0 ≤ dAt d k → onAt (marked d es z key) k = true) := by
  have hs : OnD d es z key (on0 z key) := ⟨by unfold on0; rw [List.length_set, List.length_replicate], fun k hk0 _ ho => by
    rw [on0_at h0 hk hk0, decide_eq_true_eq] at ho
    rw [ho]
    exact .here⟩
  obtain ⟨h1, h2⟩ := marks_all hz (dAt d key).toNat (on0 z key) hs (fun k hr hn => by
    have hle := hr.le
    have hkk : k = key := hle.2 (by omega)
    rw [hkk, on0_at h0 hk h0, decide_eq_true rfl]) (by omega)
  exact ⟨h1.len, h1.only, h2⟩
end Go.Proofs.Ytdildmfjekdlgaa
/- Distances: the way that the reference picks goes along edges, from a seed to the key. Plain facts. -/
namespace Go.Proofs.Ytdildmfjekdlgaa
open Go.RowKit
/-- Whether a key may stand at place n behind the way so far. -/
def fitsD (d : List Int) (es : List Edg) (on : List Bool) (way : List Int) (n : Nat) (k : Nat) : Bool := onAt on (k : Int) && (decide (dAt d (k : Int) = (n : Int)) && (decide (n = 0) || hasI (outS es (way.getD (n - 1) 0)) (k : Int)))
def pickD (d : List Int) (es : List Edg) (on : List Bool) (z : Nat) (way : List Int) (n : Nat) : List Int := match (List.range z).find? (fitsD d es on way n) with | some k => [(k : Int)] | none => []
def wayUp (d : List Int) (es : List Edg) (on : List Bool) (z : Nat) : Nat → List Int
  | 0 => []
  | n + 1 => wayUp d es on z n ++ pickD d es on z (wayUp d es on z n) n
theorem outS_mem {es : List Edg} {j k : Int} : k ∈ outS es j ↔ ∃ e ∈ es, e.fr = j ∧ e.tu = k := by
  unfold outS
  rw [List.mem_flatMap]
  constructor
  · rintro ⟨e, he, hk⟩
    split at hk
    · rename_i h
      exact ⟨e, he, h, (List.mem_singleton.1 hk).symm⟩
    · exact nomatch hk
  · rintro ⟨e, he, h1, h2⟩
    exact ⟨e, he, by rw [if_pos h1, h2]; exact List.mem_singleton_self _⟩
/-- What the way is so far. -/
structure WayD (z : Nat) (es : List Edg) (d : List Int) (key : Int) (n : Nat) (w : List Int) : Prop where
  len : w.length = n
  at_ : ∀ i, i < n → 0 ≤ w.getD i 0 ∧ w.getD i 0 < z ∧ Rch d es key (w.getD i 0) ∧ dAt d (w.getD i 0) = (i : Int)
  edge : ∀ i, 0 < i → i < n → hasI (outS es (w.getD (i - 1) 0)) (w.getD i 0) = true
theorem WayD.snoc {z : Nat} {es : List Edg} {d : List Int} {key : Int} {n : Nat} {w : List Int} (h : WayD z es d key n w) {k : Int} (k0 : 0 ≤ k) (k1 : k < z) (hr : Rch d es key k) (hd : dAt d k = (n : Int)) (he : 0 < n → hasI (outS es (w.getD (n - 1) 0)) k = true) : WayD z es d key (n + 1) (w ++ [k]) := by
  have hlo : ∀ i, i < n → (w ++ [k]).getD i 0 = w.getD i 0 := fun i hi => by
    rw [List.getD_eq_getElem?_getD, List.getElem?_append_left (by rw [h.len]; exact hi), ← List.getD_eq_getElem?_getD]
  have hhi : (w ++ [k]).getD n 0 = k := by
    rw [List.getD_eq_getElem?_getD, List.getElem?_append_right (by rw [h.len]; exact Nat.le_refl _), h.len, Nat.sub_self]; rfl
  refine ⟨by rw [List.length_append, h.len]; rfl, fun i hi => ?_, fun i h0 hi => ?_⟩
  · rcases Nat.lt_or_ge i n with h1 | h1
    · rw [hlo i h1]; exact h.at_ i h1
    · rw [show i = n by omega, hhi]; exact ⟨k0, k1, hr, hd⟩
  · rcases Nat.lt_or_ge i n with h1 | h1
    · rw [hlo i h1, hlo (i - 1) (by omega)]; exact h.edge i h0 h1
    · rw [show i = n by omega, hhi, hlo (n - 1) (by omega)]; exact he (by omega)
theorem pick_some {z : Nat} {es : List Edg} {d : List Int} {on : List Bool} {w : List Int} {n : Nat} {k : Int} (k0 : 0 ≤ k) (k1 : k < z) (hf : fitsD d es on w n k.toNat = true) : ∃ q : Nat, q < z ∧ pickD d es on z w n = [(q : Int)] ∧ fitsD d es on w n q = true ∧ ∀ j, j < q → fitsD d es on w n j = false := by
  unfold pickD
  cases hx : (List.range z).find? (fitsD d es on w n) with
  | none =>
    have h1 := List.find?_eq_none.1 hx k.toNat (List.mem_range.2 (by omega))
    exact absurd hf h1
  | some q =>
    have h1 := List.find?_some hx
    have h2 := List.mem_of_find?_eq_some hx
    refine ⟨q, List.mem_range.1 h2, rfl, h1, fun j hj => ?_⟩
    have h3 := (List.find?_range_eq_some.1 hx).2.2 j hj
    simpa using h3
theorem fits_iff {d : List Int} {es : List Edg} {on : List Bool} {w : List Int} {n k : Nat} : fitsD d es on w n k = true ↔ onAt on (k : Int) = true ∧ dAt d (k : Int) = (n : Int) ∧ (0 < n → hasI (outS es (w.getD (n - 1) 0)) (k : Int) = true) := by
  unfold fitsD
  rw [Bool.and_eq_true, Bool.and_eq_true, Bool.or_eq_true, decide_eq_true_eq, decide_eq_true_eq]
  constructor
  · rintro ⟨a, b, c⟩
    exact ⟨a, b, fun h => c.elim (fun q => by omega) id⟩
  · rintro ⟨a, b, c⟩
    exact ⟨a, b, (Nat.eq_zero_or_pos n).elim .inl (fun h => .inr (c h))⟩
end Go.Proofs.Ytdildmfjekdlgaa
/- Distances: the reference's Put; the laws' content over distances. Plain facts. -/
namespace Go.Proofs.Ytdildmfjekdlgaa
open Go.RowKit
/-- Where a number stands in an ascending list, or would stand; the list with it. -/
def putAt (x : Int) : List Int → Nat
  | [] => 0
  | a :: m => if a < x then putAt x m + 1 else 0
def putI (l : List Int) (x : Int) : List Int := if putAt x l < l.length ∧ l.getD (putAt x l) 0 = x then l else l.take (putAt x l) ++ x :: l.drop (putAt x l)
theorem putAt_low (x : Int) : ∀ (l : List Int) (i : Nat), i < putAt x l → l.getD i 0 < x
  | [], i, h => absurd h (Nat.not_lt_zero _)
  | a :: m, i, h => by
    unfold putAt at h
    split at h
    · rename_i ha
      cases i with
      | zero => exact ha
      | succ i => rw [List.getD_cons_succ]; exact putAt_low x m i (by omega)
    · exact absurd h (Nat.not_lt_zero _)
theorem putAt_le (x : Int) : ∀ l : List Int, putAt x l ≤ l.length
  | [] => Nat.le_refl _
  | a :: m => by
    unfold putAt
    have := putAt_le x m
    split
    · simp only [List.length_cons]; omega
    · exact Nat.zero_le _
theorem putAt_at (x : Int) : ∀ l : List Int, putAt x l < l.length → ¬ l.getD (putAt x l) 0 < x
  | [], h => absurd h (Nat.not_lt_zero _)
  | a :: m, h => by
    unfold putAt at h ⊢
    split
    · rename_i ha
      rw [if_pos ha] at h
      rw [List.getD_cons_succ]
      exact putAt_at x m (by simpa using h)
    · rename_i ha
      simpa using ha
/-- From which keys distances are measured: seeds that are not gone. -/
def seedB (gn seeds : List Int) (k : Int) : Bool := hasI seeds k && !hasI gn k
/-- The distances of a graph. -/
def allD (G : Gr) (seeds : List Int) : List Int := roundsD G.es G.sz.toNat (initD G.sz.toNat (seedB G.gn seeds))
theorem good_inZ {G : Gr} (h : Good11 G) : ∀ e ∈ G.es, InZ G.sz.toNat e := fun e he => by
  have h1 := h.ends e he
  have h2 := h.lo
  unfold endsB keyB at h1
  rw [Bool.and_eq_true, Bool.and_eq_true, Bool.and_eq_true, Bool.and_eq_true, decide_eq_true_eq, decide_eq_true_eq, decide_eq_true_eq, decide_eq_true_eq] at h1
  exact ⟨h1.1.1, by omega, h1.2.1.1, by omega⟩
theorem allD_dist {G : Gr} (h : Good11 G) (seeds : List Int) : IsDist G.sz.toNat G.es (seedB G.gn seeds) (allD G seeds) := rounds_dist (good_inZ h)
end Go.Proofs.Ytdildmfjekdlgaa
/- Graphs: the walk of the reference's Without. -/
namespace Go.Proofs.Ytdildmfjekdlgaa
open Go.RowKit
end Go.Proofs.Ytdildmfjekdlgaa
/- The law of layer 11 on one graph, over any program that gives what layer 11 asks. -/
namespace Go.Proofs.Ytdildmfjekdlgaa
open Go.RowKit
theorem set_at {l : List Int} {z : Int} (h : setB l z = true) {i : Nat} (hi : i < l.length) : 0 ≤ l.getD i 0 ∧ l.getD i 0 < z ∧ (0 < i → l.getD (i - 1) 0 < l.getD i 0) := by
  unfold setB at h
  rw [List.all_eq_true] at h
  have h1 := h i (List.mem_range.2 hi)
  unfold okSet at h1
  rw [Bool.and_eq_true, Bool.and_eq_true, Bool.or_eq_true, decide_eq_true_eq, decide_eq_true_eq, decide_eq_true_eq, decide_eq_true_eq] at h1
  exact ⟨h1.1, h1.2.1, fun h0 => h1.2.2.elim (fun q => by omega) id⟩
theorem set_len {l : List Int} {z : Int} (h : setB l z = true) (hz : z ≤ 64) : l.length ≤ 64 := by
  have hk : ∀ i, i < l.length → (i : Int) ≤ l.getD i 0 ∧ l.getD i 0 < z := by
    intro i
    induction i with
    | zero =>
      intro hi
      have := set_at h hi
      exact ⟨by omega, this.2.1⟩
    | succ i ih =>
      intro hi
      have h1 := ih (by omega)
      have h2 := set_at h hi
      exact ⟨by have := h2.2.2 (by omega); rw [Nat.add_sub_cancel] at this; omega, h2.2.1⟩
  rcases Nat.eq_zero_or_pos l.length with h0 | h0
  · omega
  · have := hk (l.length - 1) (by omega)
    omega
theorem Good11.few {G : Gr} (h : Good11 G) : G.es.length ≤ 100000 ∧ G.gn.length ≤ 100000 := ⟨Nat.le_trans h.len (by decide), Nat.le_trans (set_len h.set h.hi) (by decide)⟩
end Go.Proofs.Ytdildmfjekdlgaa
/- Capacities: what they are; what the laws over them say. Plain facts. -/
namespace Go.Proofs.Ytdildmfjekdlgaa
open Go.RowKit
/-- A policy. -/
structure Pol where
  sd : List Int
  tb : List Int
  lv : Int
def okT (l : List Int) (i : Nat) : Bool := decide (1 ≤ l.getD i 0) && (decide (l.getD i 0 ≤ 1000) && (decide (i = 0) || decide (l.getD i 0 ≤ l.getD (i - 1) 0)))
def tabB (l : List Int) : Bool := (List.range l.length).all (okT l)
def polHead (z : Int) (p : Pol) : Bool := !decide (p.sd.length = 0) && (setB p.sd z && (decide (1 ≤ p.tb.length) && (decide (p.tb.length ≤ 8) && (decide (1 ≤ p.lv) && decide (p.lv ≤ 3)))))
def polB (z : Int) (p : Pol) : Bool := polHead z p && tabB p.tb
/-- What Check says. -/
def checkP (G : Gr) (p : Pol) : Int := if okG G = false then 14 else if polB G.sz p = false then 15 else 0
theorem tabB_no {l : List Int} {i : Nat} (hi : i < l.length) (h : okT l i = false) : tabB l = false := by
  unfold tabB
  rw [List.all_eq_false]
  exact ⟨i, List.mem_range.2 hi, by rw [h]; decide⟩
theorem tabB_yes {l : List Int} (h : ∀ i, i < l.length → okT l i = true) : tabB l = true := by
  unfold tabB
  rw [List.all_eq_true]
  exact fun i hi => h i (List.mem_range.1 hi)
structure GoodT (l : List Int) : Prop where
  few : l.length ≤ 8
  some_ : 1 ≤ l.length
  at_ : ∀ i, i < l.length → 1 ≤ l.getD i 0 ∧ l.getD i 0 ≤ 1000 ∧ (0 < i → l.getD i 0 ≤ l.getD (i - 1) 0)
structure GoodP (z : Int) (p : Pol) : Prop where
  ne : p.sd.length ≠ 0
  set : setB p.sd z = true
  tab : GoodT p.tb
  lo : 1 ≤ p.lv
  hi : p.lv ≤ 3
theorem polB_good {z : Int} {p : Pol} (h : polB z p = true) : GoodP z p := by
  unfold polB polHead at h
  simp only [Bool.and_eq_true, Bool.not_eq_true', decide_eq_true_eq, decide_eq_false_iff_not] at h
  obtain ⟨⟨h1, h2, h3, h4, h5, h6⟩, h7⟩ := h
  refine ⟨h1, h2, ⟨h4, h3, fun i hi => ?_⟩, h5, h6⟩
  unfold tabB at h7
  rw [List.all_eq_true] at h7
  have h8 := h7 i (List.mem_range.2 hi)
  unfold okT at h8
  simp only [Bool.and_eq_true, Bool.or_eq_true, decide_eq_true_eq] at h8
  exact ⟨h8.1, h8.2.1, fun h0 => h8.2.2.elim (fun h => absurd h (by omega)) id⟩
theorem good_polB {z : Int} {p : Pol} (h : GoodP z p) : polB z p = true := by
  unfold polB polHead
  simp only [Bool.and_eq_true, Bool.not_eq_true', decide_eq_true_eq, decide_eq_false_iff_not]
  refine ⟨⟨h.ne, h.set, h.tab.some_, h.tab.few, h.lo, h.hi⟩, tabB_yes fun i hi => ?_⟩
  obtain ⟨a, b, c⟩ := h.tab.at_ i hi
  unfold okT
  simp only [Bool.and_eq_true, Bool.or_eq_true, decide_eq_true_eq]
  refine ⟨a, b, ?_⟩
  by_cases h0 : i = 0
  · exact .inl h0
  · exact .inr (c (by omega))
theorem checkP_iff {G : Gr} {p : Pol} : checkP G p = 0 ↔ Good11 G ∧ GoodP G.sz p := by
  unfold checkP
  constructor
  · intro h
    split at h
    · exact absurd h (by decide)
    · rename_i h1
      split at h
      · exact absurd h (by decide)
      · rename_i h2
        exact ⟨(okG_iff G).1 (by simpa using h1), polB_good (by simpa using h2)⟩
  · rintro ⟨h1, h2⟩
    rw [if_neg (by rw [(okG_iff G).2 h1]; decide), if_neg (by rw [good_polB h2]; decide)]
theorem GoodT.mono {l : List Int} (h : GoodT l) : ∀ (j i : Nat), i ≤ j → j < l.length → l.getD j 0 ≤ l.getD i 0
  | 0, i, hi, _ => by rw [show i = 0 by omega]; exact Int.le_refl _
  | j + 1, i, hi, hj => by
    rcases Nat.eq_or_lt_of_le hi with e | e
    · rw [e]; exact Int.le_refl _
    · have h1 := h.mono j i (by omega) (by omega)
      have h2 := (h.at_ (j + 1) hj).2.2 (by omega)
      rw [show j + 1 - 1 = j by omega] at h2
      omega
/-- The capacity of a distance. -/
def capT (tb : List Int) (d : Int) : Int := if d < 0 then 0 else if d < (tb.length : Int) then tb.getD d.toNat 0 else 1
theorem capT_lo {tb : List Int} (h : GoodT tb) {d : Int} (hd : 0 ≤ d) : 1 ≤ capT tb d := by
  unfold capT
  rw [if_neg (by omega)]
  split
  · exact (h.at_ d.toNat (by omega)).1
  · exact Int.le_refl _
theorem capT_bd {tb : List Int} (h : GoodT tb) (d : Int) : 0 ≤ capT tb d ∧ capT tb d ≤ 1000 := by
  unfold capT
  split
  · omega
  · split
    · have := h.at_ d.toNat (by omega)
      omega
    · omega
theorem capT_zero {tb : List Int} (h : GoodT tb) (d : Int) : capT tb d = 0 ↔ d < 0 := by
  constructor
  · intro h0
    rcases Int.lt_or_le d 0 with q | q
    · exact q
    · have := capT_lo h q; omega
  · intro h0
    unfold capT
    rw [if_pos h0]
theorem capT_mono {tb : List Int} (h : GoodT tb) {d d' : Int} (h0 : 0 ≤ d') (hd : d' ≤ d) : capT tb d ≤ capT tb d' := by
  have h1 := capT_lo h h0
  by_cases h2 : d < (tb.length : Int)
  · unfold capT
    rw [if_neg (show ¬ d < 0 by omega), if_neg (show ¬ d' < 0 by omega), if_pos h2, if_pos (show d' < (tb.length : Int) by omega)]
    exact h.mono d.toNat d'.toNat (by omega) (by omega)
  · have e : capT tb d = 1 := by
      unfold capT
      rw [if_neg (show ¬ d < 0 by omega), if_neg h2]
    rw [e]
    exact h1
/-- A table with greater numbers. -/
theorem capT_two {tb : List Int} (h : GoodT tb) (d : Int) : capT tb d ≤ capT (tb.map (· + 2)) d ∧ (capT (tb.map (· + 2)) d = 0 ↔ capT tb d = 0) := by
  unfold capT
  rw [List.length_map]
  by_cases h0 : d < 0
  · rw [if_pos h0, if_pos h0]
    exact ⟨Int.le_refl _, Iff.rfl⟩
  · rw [if_neg h0, if_neg h0]
    by_cases h1 : d < (tb.length : Int)
    · rw [if_pos h1, if_pos h1]
      have e : (tb.map (· + 2)).getD d.toNat 0 = tb.getD d.toNat 0 + 2 := by
        rw [List.getD_eq_getElem?_getD, List.getElem?_map, List.getD_eq_getElem?_getD, List.getElem?_eq_getElem (by omega)]
        rfl
      have := h.at_ d.toNat (by omega)
      rw [e]
      omega
    · rw [if_neg h1, if_neg h1]
      exact ⟨Int.le_refl _, Iff.rfl⟩
/-- The edges of a level and above, in a graph that is one. -/
theorem good_level {G : Gr} (h : Good11 G) (lv : Int) : Good11 (levelG G lv) :=
  ⟨h.lo, h.hi, Nat.le_trans (List.length_filter_le _ _) h.len, h.set, fun e he => h.ends e (List.mem_filter.1 he).1, fun e he => h.lev e (List.mem_filter.1 he).1, List.Pairwise.filter _ h.asc, fun e he => h.free e (List.mem_filter.1 he).1⟩
/-- The capacities of a graph's keys. -/
def distP (G : Gr) (p : Pol) : List Int := allD (levelG G p.lv) p.sd
def capsG (G : Gr) (p : Pol) : List Int := (distP G p).map (capT p.tb)
def capAt (G : Gr) (p : Pol) (k : Int) : Int := capT p.tb (dAt (distP G p) k)
theorem distP_dist {G : Gr} (h : Good11 G) (p : Pol) : IsDist G.sz.toNat (levelG G p.lv).es (seedB G.gn p.sd) (distP G p) := allD_dist (good_level h p.lv) p.sd
theorem capsG_len {G : Gr} (h : Good11 G) (p : Pol) : (capsG G p).length = G.sz.toNat := by
  unfold capsG
  rw [List.length_map]
  exact (distP_dist h p).len
theorem capsG_at {G : Gr} (h : Good11 G) (p : Pol) {k : Nat} (hk : k < G.sz.toNat) : (capsG G p).getD k 0 = capAt G p (k : Int) := by
  have hl := (distP_dist h p).len
  unfold capsG capAt dAt
  rw [List.getD_eq_getElem?_getD, List.getElem?_map, List.getD_eq_getElem?_getD, Int.toNat_natCast, List.getElem?_eq_getElem (by rw [hl]; exact hk)]
  rfl
theorem cap_dist {G G' : Gr} {p : Pol} (ht : GoodT p.tb) (g : Good11 G) (g' : Good11 G') (hs : G'.sz = G.sz) (hg : G'.gn = G.gn) (he : ∀ e ∈ G.es, e ∈ G'.es) {k : Int} (h0 : 0 ≤ k) (hk : k < G.sz) : capAt G p k ≤ capAt G' p k := by
  have a := distP_dist g p
  have b := distP_dist g' p
  have hlo := g.lo
  rw [hs, hg] at b
  have hl := a.low k h0 (by omega)
  unfold capAt
  by_cases hd : 0 ≤ dAt (distP G p) k
  · have h2 := a.more b (fun x hx => ⟨good_inZ (good_level g p.lv) x hx, x, List.mem_filter.2 ⟨he x (List.mem_filter.1 hx).1, (List.mem_filter.1 hx).2⟩, rfl, rfl⟩) (fun _ q => q) (dAt (distP G p) k).toNat k h0 (by omega) (by omega)
    exact capT_mono ht h2.1 (by omega)
  · rw [(capT_zero ht _).2 (by omega)]
    exact (capT_bd ht _).1
/-- The content of CapacityMore. -/
theorem cap_edge {G : Gr} {e : Edg} {p : Pol} (ht : GoodT p.tb) (h : (withG G e).2 = 0) {k : Int} (h0 : 0 ≤ k) (hk : k < G.sz) : capAt G p k ≤ capAt (withG G e).1 p k := by
  obtain ⟨g1, g2, g3, -⟩ := with_good h
  refine cap_dist ht g1 g2 (by rw [g3]) (by rw [g3]) (fun x hx => ?_) h0 hk
  rw [g3]
  rw [← List.take_append_drop (idxE e G.es) G.es, List.mem_append] at hx
  rw [List.mem_append, List.mem_cons]
  exact hx.elim .inl fun q => .inr (.inr q)
theorem cap_two {G : Gr} {p : Pol} (ht : GoodT p.tb) (k : Int) : capAt G p k ≤ capAt G ⟨p.sd, p.tb.map (· + 2), p.lv⟩ k ∧ (capAt G ⟨p.sd, p.tb.map (· + 2), p.lv⟩ k = 0 ↔ capAt G p k = 0) := capT_two ht _
/-- Whether an edge of the level leads from a key to some keys; what a key adds to the bound; the bound. -/
def deceB (es : List Edg) (lv : Int) (keys : List Int) (k : Int) : Bool := es.any fun e => decide (e.fr = k) && (decide (lv ≤ e.lv) && hasI keys e.tu)
theorem deceB_snoc (es : List Edg) (lv : Int) (keys : List Int) (k : Int) (j : Nat) (h : j < es.length) : deceB (es.take (j + 1)) lv keys k = (deceB (es.take j) lv keys k || (decide ((es.getD j noEdg).fr = k) && (decide (lv ≤ (es.getD j noEdg).lv) && hasI keys (es.getD j noEdg).tu))) := by
  unfold deceB
  rw [List.take_add_one, List.getElem?_eq_getElem h, List.any_append, List.getD_eq_getElem?_getD, List.getElem?_eq_getElem h]
  simp
def addB (G : Gr) (p : Pol) (keys : List Int) (c k : Int) : Int := if hasI keys k then (if hasI p.sd k then c else 0) else if deceB G.es p.lv keys k then max 0 (c - 1) else 0
def sumB (G : Gr) (p : Pol) (keys : List Int) : Nat → Int
  | 0 => 0
  | k + 1 => sumB G p keys k + addB G p keys (capAt G p (k : Int)) (k : Int)
def boundG (G : Gr) (p : Pol) (keys : List Int) : Int := sumB G p keys G.sz.toNat
theorem addB_bd {G : Gr} {p : Pol} {keys : List Int} {c k : Int} (h0 : 0 ≤ c) (h1 : c ≤ 1000) : 0 ≤ addB G p keys c k ∧ addB G p keys c k ≤ 1000 := by
  unfold addB
  split
  · split <;> omega
  · split <;> omega
theorem sumB_bd {G : Gr} {p : Pol} (ht : GoodT p.tb) (keys : List Int) : ∀ k, 0 ≤ sumB G p keys k ∧ sumB G p keys k ≤ 1000 * (k : Int)
  | 0 => by unfold sumB; omega
  | k + 1 => by
    have h1 := sumB_bd (G := G) ht keys k
    have h2 := capT_bd ht (dAt (distP G p) (k : Int))
    have h3 := addB_bd (G := G) (p := p) (keys := keys) (k := (k : Int)) h2.1 h2.2
    unfold sumB capAt
    omega
theorem sumB_same {G G' : Gr} {p p' : Pol} {keys keys' : List Int} : ∀ z : Nat, (∀ k : Nat, k < z → addB G p keys (capAt G p (k : Int)) (k : Int) = addB G' p' keys' (capAt G' p' (k : Int)) (k : Int)) → sumB G p keys z = sumB G' p' keys' z
  | 0, _ => rfl
  | z + 1, h => by
    unfold sumB
    rw [sumB_same z (fun k hk => h k (by omega)), h z (by omega)]
theorem hasI_eq {a b : List Int} (h : ∀ x, x ∈ a ↔ x ∈ b) (x : Int) : hasI a x = hasI b x := by
  rw [Bool.eq_iff_iff, hasI_iff, hasI_iff]
  exact h x
/-- The bound is one of the set of keys. -/
theorem bound_set {G : Gr} {p : Pol} {a b : List Int} (h : ∀ x, x ∈ a ↔ x ∈ b) : boundG G p a = boundG G p b := by
  refine sumB_same _ fun k _ => ?_
  have e : hasI a = hasI b := funext fun x => hasI_eq h x
  unfold addB deceB
  rw [e]
/-- Edges among the keys do not matter, if the capacities of the others, and of the seeds, stay. -/
theorem bound_more {G G' : Gr} {p : Pol} {keys : List Int} (hs : G'.sz = G.sz) (he : ∀ e, hasI keys e.fr = false → (e ∈ G.es ↔ e ∈ G'.es)) (hc : ∀ k : Nat, k < G.sz.toNat → capAt G p (k : Int) = capAt G' p (k : Int) ∨ (hasI keys (k : Int) = true ∧ hasI p.sd (k : Int) = false)) : boundG G' p keys = boundG G p keys := by
  unfold boundG
  rw [hs]
  refine (sumB_same _ fun k hk => ?_).symm
  unfold addB
  by_cases h : hasI keys (k : Int) = true
  · rw [if_pos h, if_pos h]
    rcases hc k hk with q | q
    · rw [q]
    · rw [q.2]; rfl
  · rw [if_neg h, if_neg h]
    rcases hc k hk with q | q
    · have hd : deceB G.es p.lv keys (k : Int) = deceB G'.es p.lv keys (k : Int) := by
        rw [Bool.eq_iff_iff]
        unfold deceB
        rw [List.any_eq_true, List.any_eq_true]
        have hh : ∀ e : Edg, (decide (e.fr = (k : Int)) && (decide (p.lv ≤ e.lv) && hasI keys e.tu)) = true → hasI keys e.fr = false := by
          intro e q2
          rw [Bool.and_eq_true, decide_eq_true_eq] at q2
          rw [q2.1]
          simpa using h
        constructor
        · rintro ⟨e, h1, h2⟩
          exact ⟨e, (he e (hh e h2)).1 h1, h2⟩
        · rintro ⟨e, h1, h2⟩
          exact ⟨e, (he e (hh e h2)).2 h1, h2⟩
      rw [q, hd]
    · exact absurd q.1 h
/-- What the seeds among some keys have. -/
def seedSum (sd keys : List Int) (c : Int) (z : Nat) : Int := match z with | 0 => 0 | k + 1 => seedSum sd keys c k + (if hasI keys (k : Int) then (if hasI sd (k : Int) then c else 0) else 0)
theorem bound_bare {z : Int} {p : Pol} {keys : List Int} (h0 : 0 ≤ z) (h1 : z ≤ 64) (ht : GoodT p.tb) : boundG ⟨z, [], []⟩ p keys = seedSum p.sd keys (p.tb.getD 0 0) z.toNat := by
  have g : Good11 ⟨z, [], []⟩ := ⟨h0, h1, Nat.zero_le _, rfl, fun _ h => (nomatch h), fun _ h => (nomatch h), List.Pairwise.nil, fun _ h => (nomatch h)⟩
  have hd := distP_dist g p
  have hh : ∀ j : Nat, j ≤ z.toNat → sumB ⟨z, [], []⟩ p keys j = seedSum p.sd keys (p.tb.getD 0 0) j := by
    intro j
    induction j with
    | zero => intro _; rfl
    | succ j ih =>
      intro hj
      unfold sumB seedSum
      rw [ih (by omega)]
      congr 1
      unfold addB
      by_cases hk : hasI keys (j : Int) = true
      · rw [if_pos hk, if_pos hk]
        by_cases hq : hasI p.sd (j : Int) = true
        · rw [if_pos hq, if_pos hq]
          have hz : dAt (distP ⟨z, [], []⟩ p) (j : Int) = 0 := (hd.zero (j : Int) (by omega) (by show (j : Int) < (z.toNat : Int); omega)).2 (by
            unfold seedB
            rw [hq]
            rfl)
          unfold capAt capT
          rw [hz, if_neg (by decide), if_pos (by have := ht.some_; omega)]
          rfl
        · rw [if_neg hq, if_neg hq]
      · rw [if_neg hk, if_neg hk]
        rfl
  exact hh _ (Nat.le_refl _)
end Go.Proofs.Ytdildmfjekdlgaa
/- Policies in memory; the reference's Of and CopyPolicy. -/
namespace Go.Proofs.Ytdildmfjekdlgaa
open Go.RowKit
theorem po_size : (Try.prog.info? 24).map (·.size) = some 3 := by kernel_rfl
/-- A policy as a value. -/
def PHold (w : World) (p : Pol) (v : Value) : Prop := ∃ A n c B m k, v = .agg #[.slice A n c, .slice B m k, .int .i64 p.lv] ∧ IRow w A n c p.sd ∧ IRow w B m k p.tb
theorem PHold.later {w w' : World} {p : Pol} {v : Value} (h : PHold w p v) (hb : Later w w') : PHold w' p v := by
  obtain ⟨A, n, c, B, m, k, rfl, h1, h2⟩ := h
  exact ⟨A, n, c, B, m, k, rfl, h1.later hb, h2.later hb⟩
def POwn (w : World) (b : Nat) (p : Pol) (v : Value) : Prop := ∃ e f, v = .agg #[e, f, .int .i64 p.lv] ∧ w.ownsRow b 3 1 e p.sd.length (intsV p.sd) ∧ w.ownsRow b 3 1 f p.tb.length (intsV p.tb)
theorem POwn.hold {w : World} {b : Nat} {p : Pol} {v : Value} (h : POwn w b p v) : PHold w p v := by
  obtain ⟨e, f, rfl, h1, h2⟩ := h
  obtain ⟨A, c, rfl, hr⟩ := Row.of_own h1
  obtain ⟨B, k, rfl, hs⟩ := Row.of_own h2
  exact ⟨_, _, _, _, _, _, rfl, hr, hs⟩
theorem POwn.later {w w' : World} {b : Nat} {p : Pol} {v : Value} (h : POwn w b p v) (hb : Below w.heap.size w w') : POwn w' b p v := by
  obtain ⟨e, f, rfl, h1, h2⟩ := h
  exact ⟨e, f, rfl, own_later h1 hb, own_later h2 hb⟩
theorem POwn.but {D : Nat} {w w' : World} {b : Nat} {p : Pol} {v : Value} (h : POwn w b p v) (hb : But D w w') (hD : D < b) : POwn w' b p v := by
  obtain ⟨e, g, rfl, h1, h2⟩ := h
  exact ⟨e, g, rfl, own_keepL h1 fun q hq => hb.block q (own_lt h1 q hq) (by have := own_ge h1 q hq; omega), own_keepL h2 fun q hq => hb.block q (own_lt h2 q hq) (by have := own_ge h2 q hq; omega)⟩
theorem POwn.base {w : World} {b b' : Nat} {p : Pol} {v : Value} (h : POwn w b p v) (hb : b' ≤ b) : POwn w b' p v := by
  obtain ⟨e, g, rfl, h1, h2⟩ := h
  exact ⟨e, g, rfl, own_base h1 hb, own_base h2 hb⟩
set_option maxRecDepth 100000 in
set_option maxHeartbeats 4000000 in
theorem refOf_any (p : Pol) (v : Value) (d : Int) (w : World) (h : PHold w p v) : Calls Try.prog 12 #[v, .int .i64 d] w (SaysL (.int .i64 (capT p.tb d)) w) := by
  obtain ⟨A, n, c, B, m, k, rfl, h1, h2⟩ := h
  have HN := Lib.hid (one_new w (.cells #[.slice A n c, .slice B m k, .int .i64 p.lv] 24))
  have HX : Hid ((w.alloc (.cells #[.slice A n c, .slice B m k, .int .i64 p.lv] 24)).heap[w.heap.size]? = some (.cells #[.slice A n c, .slice B m k, .int .i64 p.lv] 24 (0, 0))) := Lib.hid (heap_alloc_new _ _)
  have H1 := Lib.hid h1; have H2 := Lib.hid h2
  have hlm := h2.len
  have HC : Hid (capT p.tb d = if d < 0 then 0 else if d < (m : Int) then p.tb.getD d.toNat 0 else 1) := Lib.hid (by unfold capT; rw [hlm])
  generalize capT p.tb d = CT at *
  clear h1 h2 hlm
  go_enter Try.func12, Try.ntmps12
  go_upto_region 1 with fail
  generalize w.alloc (.cells #[.slice A n c, .slice B m k, .int .i64 p.lv] 24) = y0 at *
  by_cases h0 : d < 0
  · have d0 : decide (d < 0) = true := decide_eq_true h0
    have HE : Hid (CT = 0) := Lib.hid (by rw [HC.out, if_pos h0])
    clear h0
    go_wp2_with fail
    go_ret
    exact ⟨by rw [HE.out]; rfl, HN.out⟩
  · have d0 : decide (d < 0) = false := decide_eq_false h0
    obtain ⟨j, rfl⟩ : ∃ j : Nat, d = (j : Int) := ⟨d.toNat, by omega⟩
    have hc1 : y0.cell? ⟨w.heap.size, 1, none⟩ = some (.slice B m k) := (cell_of_row _ _ 1 _ _ _ HX.out).trans rfl
    by_cases h1 : j < m
    · have d1 : decide ((j : Int) < (m : Int)) = true := decide_eq_true (by omega)
      have d1n : decide (j < m) = true := decide_eq_true h1
      have h1z : (j : Int) < (m : Int) := by omega
      obtain ⟨bo, oo, hA, hcell⟩ := IRow.cell (H2.out.later HN.out) j h1
      subst hA
      have HE : Hid (CT = p.tb.getD j 0) := Lib.hid (by rw [HC.out, if_neg h0, if_pos h1z, Int.toNat_natCast])
      generalize p.tb.getD j 0 = x at *
      clear h0
      go_wp2_with fail
      go_ret
      exact ⟨by rw [HE.out]; rfl, HN.out⟩
    · have d1 : decide ((j : Int) < (m : Int)) = false := decide_eq_false (by omega)
      have d1n : decide (j < m) = false := decide_eq_false h1
      have HE : Hid (CT = 1) := Lib.hid (by rw [HC.out, if_neg h0, if_neg (by omega)])
      clear h0 h1
      go_wp2_with fail
      go_ret
      exact ⟨by rw [HE.out]; rfl, HN.out⟩
set_option maxRecDepth 100000 in
set_option maxHeartbeats 4000000 in
theorem copyPol_own (p : Pol) (v : Value) (w : World) (h : PHold w p v) (hs : p.sd.length ≤ 100000) (ht : p.tb.length ≤ 100000) : Calls Try.prog 19 #[v] w fun e w' => ∃ A1 c1 A2 c2, e = .returned (.agg #[.slice A1 p.sd.length c1, .slice A2 p.tb.length c2, .int .i64 p.lv]) ∧ w'.ownsRow w.heap.size 3 1 (.slice A1 p.sd.length c1) p.sd.length (intsV p.sd) ∧ w'.ownsRow w.heap.size 3 1 (.slice A2 p.tb.length c2) p.tb.length (intsV p.tb) ∧ (∀ k, (Value.slice A1 p.sd.length c1).ownBlock = some k → (Value.slice A2 p.tb.length c2).ownBlock ≠ some k) ∧ Below w.heap.size w w' := by
  obtain ⟨A, n, c, B, m, k, rfl, h1, h2⟩ := h
  have hn : n ≤ 100000 := by rw [← h1.len]; exact hs
  have hm : m ≤ 100000 := by rw [← h2.len]; exact ht
  have HL1 : Hid (p.sd.length = n) := Lib.hid h1.len
  have HL2 : Hid (p.tb.length = m) := Lib.hid h2.len
  have HB0 : Hid (Below w.heap.size w ((w.alloc (.cells #[.slice A n c, .slice B m k, .int .i64 p.lv] 24)).alloc (.cells #[.slice none 0 0, .slice none 0 0, .int .i64 0] 24))) := Lib.hid ((one_new w _).trans ((one_new _ _).mono (by simp)))
  have HX : Hid (((w.alloc (.cells #[.slice A n c, .slice B m k, .int .i64 p.lv] 24)).alloc (.cells #[.slice none 0 0, .slice none 0 0, .int .i64 0] 24)).heap[w.heap.size]? = some (.cells #[.slice A n c, .slice B m k, .int .i64 p.lv] 24 (0, 0))) := Lib.hid ((Below.heap_alloc _ _ _ (by simp)).trans (heap_alloc_new _ _))
  have HR : Hid (((w.alloc (.cells #[.slice A n c, .slice B m k, .int .i64 p.lv] 24)).alloc (.cells #[.slice none 0 0, .slice none 0 0, .int .i64 0] 24)).heap[w.heap.size + 1]? = some (.cells #[.slice none 0 0, .slice none 0 0, .int .i64 0] 24 (0, 0))) := Lib.hid (heap_alloc2_new _ _ _)
  have HS : Hid (((w.alloc (.cells #[.slice A n c, .slice B m k, .int .i64 p.lv] 24)).alloc (.cells #[.slice none 0 0, .slice none 0 0, .int .i64 0] 24)).heap.size = w.heap.size + 2) := Lib.hid (by simp)
  have H1 := Lib.hid h1; have H2 := Lib.hid h2
  clear h1 h2 hs ht
  go_enter Try.func19, Try.ntmps19
  go_wp2_with fail
  obtain ⟨r, hr⟩ : ∃ r, w.heap.size + 1 = r := ⟨_, rfl⟩
  have HRR := Lib.hid hr
  refine wp_region_grow (by kernel_rfl) (Below r) (Below.refl r) (fun _ _ _ => Below.trans) [] [([0, 1, 3, 4, 6, 7], 2), ([], 5), ([], 8), ([], 9)] (by kernel_rfl) (by kernel_rfl) (by kernel_rfl) ?_
  simp only [List.map_cons, List.map_nil, pick, List.getD_cons_zero, List.getD_cons_succ]
  replace HB0 : Hid (Below w.heap.size w ((w.alloc (.cells #[.slice A n c, .slice B m k, .int .i64 p.lv] 24)).alloc (.cells #[.slice none 0 0, .slice none 0 0, .int .i64 0] 24)).drew) := Lib.hid HB0.out.drew
  replace HX : Hid (((w.alloc (.cells #[.slice A n c, .slice B m k, .int .i64 p.lv] 24)).alloc (.cells #[.slice none 0 0, .slice none 0 0, .int .i64 0] 24)).drew.heap[w.heap.size]? = _) := HX
  replace HR : Hid (((w.alloc (.cells #[.slice A n c, .slice B m k, .int .i64 p.lv] 24)).alloc (.cells #[.slice none 0 0, .slice none 0 0, .int .i64 0] 24)).drew.heap[w.heap.size + 1]? = _) := HR
  replace HS : Hid (((w.alloc (.cells #[.slice A n c, .slice B m k, .int .i64 p.lv] 24)).alloc (.cells #[.slice none 0 0, .slice none 0 0, .int .i64 0] 24)).drew.heap.size = w.heap.size + 2) := HS
  generalize ((w.alloc (.cells #[.slice A n c, .slice B m k, .int .i64 p.lv] 24)).alloc (.cells #[.slice none 0 0, .slice none 0 0, .int .i64 0] 24)).drew = z0 at *
  rw [hr] at HR
  have HN0 : Hid (r + 1 ≤ z0.heap.size) := Lib.hid (by rw [HS.out]; omega)
  clear HS
  have hgr : w.heap.size < r := by omega
  have hf0 := (fun x => (cell_of_row _ _ 0 _ _ _ (((fut_ok (Below.refl r) z0 x).block _ hgr).trans HX.out)).trans rfl : ∀ x, (fut (Below r) z0 x).cell? ⟨w.heap.size, 0, none⟩ = some (.slice A n c))
  have hf1 := (fun x => (cell_of_row _ _ 1 _ _ _ (((fut_ok (Below.refl r) z0 x).block _ hgr).trans HX.out)).trans rfl : ∀ x, (fut (Below r) z0 x).cell? ⟨w.heap.size, 1, none⟩ = some (.slice B m k))
  have hf2 := (fun x => (cell_of_row _ _ 2 _ _ _ (((fut_ok (Below.refl r) z0 x).block _ hgr).trans HX.out)).trans rfl : ∀ x, (fut (Below r) z0 x).cell? ⟨w.heap.size, 2, none⟩ = some (.int .i64 p.lv))
  clear hr hgr
  refine wpGrow_cons ?_
  repeat (go_big_quiet_step (fail))
  refine wpQuiet_nil ?_
  clear hf0 hf1 hf2
  go_wp2_with (at_builtin; go_must (refine wpList_app z0 rfl (.const (.slice none 0 0)) (.tmp 4) 22 22 3 rfl (r + 1) Try.underlying22 i64_info rfl _ 0 [] (World.ownsRow_nil _ _ _ _) rfl _ n (intsV p.sd) (Row.src (H1.out.later HB0.out) Try.underlying22 (intsV_one _)) rfl (by unfold maxLen; omega) (by omega) HN0.out ?_); intro v1 z1 ho hb; rw [Nat.zero_add, List.nil_append] at ho; have HO1 := Lib.hid ho; have HF := Lib.hid hb; clear ho hb)
  refine pieceEnd_normal ⟨HF.out.mono (Nat.le_succ r), ?_⟩
  have HN1 : Hid (r + 1 ≤ z1.heap.size) := Lib.hid (Nat.le_trans HN0.out HF.out.size)
  have HB1 : Hid (Below w.heap.size w z1) := Lib.hid (HB0.out.trans (HF.out.mono (by have := HRR.out; omega)))
  have HR1 : Hid (z1.heap[r]? = _) := Lib.hid ((HF.out.block r (Nat.lt_succ_self r)).trans HR.out)
  clear HF HR HX
  refine wpGrow_cons ?_
  refine wpQuiet_nil ?_
  go_wp2_with (at_builtin; go_must (refine wpList_app2 z1 rfl (.const (.slice none 0 0)) (.tmp 7) 22 22 3 rfl (r + 1) Try.underlying22 i64_info rfl _ 0 [] (World.ownsRow_nil _ _ _ _) rfl _ m (intsV p.tb) (Row.src (H2.out.later HB1.out) Try.underlying22 (intsV_one _)) rfl (by unfold maxLen; omega) (by omega) HN1.out ?_); intro v2 z2 ho hb hkp hv; rw [Nat.zero_add, List.nil_append] at ho; have HO2 := Lib.hid ho; have HKP := Lib.hid hkp; have HF := Lib.hid hb; have HV := Lib.hid hv; clear ho hb hkp hv)
  refine pieceEnd_normal ⟨HF.out.mono (Nat.le_succ r), ?_⟩
  have HB2 : Hid (Below w.heap.size w z2) := Lib.hid (HB1.out.trans (HF.out.mono (by have := HRR.out; omega)))
  have HR2 : Hid (z2.heap[r]? = _) := Lib.hid ((HF.out.block r (Nat.lt_succ_self r)).trans HR1.out)
  have HO3 := Lib.hid (own_keepL HO1.out fun q hq => HKP.out q (own_lt HO1.out q hq) (by intro e; cases e))
  have HAP : Hid (∀ k, v1.ownBlock = some k → v2.ownBlock ≠ some k) := Lib.hid fun k hk h => by
    rcases HV.out with e | ⟨k2, hk2, e⟩
    · rw [e] at h; cases h
    · rw [e] at h; injection h with h; have := own_lt HO1.out k hk; omega
  clear HF HR1 HO1 HKP HV
  obtain ⟨A1, c1, rfl, -⟩ := Row.of_own HO3.out
  obtain ⟨A2, c2, rfl, -⟩ := Row.of_own HO2.out
  refine wpGrow_cons ?_
  refine wpQuiet_nil ?_
  go_wp2_with fail
  refine pieceEnd_normal ⟨Below.refl _ _, ?_⟩
  refine wpGrow_cons ?_
  refine wpQuiet_nil ?_
  rw [HRR.out]
  go_wp2_with (refine wpList_store_row rfl 24 (.tmp 2) (.tmp 11) rfl r #[.slice A1 n c1, .slice A2 m c2, .int .i64 p.lv] rfl rfl 24 _ HR2.out po_size rfl (by simp [Value.oneCell']) ?_)
  have HF : Hid (Below r z2 (z2.setRow r #[.slice A1 n c1, .slice A2 m c2, .int .i64 p.lv])) := Lib.hid (below_setRow (Below.refl _ _) (Nat.le_refl r) _)
  refine pieceEnd_normal ⟨HF.out, ?_⟩
  have HR3 := Lib.hid (setRow_heap z2 r _ #[.slice A1 n c1, .slice A2 m c2, .int .i64 p.lv] _ _ HR2.out)
  have HO4 := Lib.hid (own_keepL HO3.out fun q hq => (show (z2.setRow r #[.slice A1 n c1, .slice A2 m c2, .int .i64 p.lv]).heap[q]? = z2.heap[q]? from setRow_other _ _ _ _ (by have := own_ge HO3.out q hq; omega)))
  have HO5 := Lib.hid (own_keepL HO2.out fun q hq => (show (z2.setRow r #[.slice A1 n c1, .slice A2 m c2, .int .i64 p.lv]).heap[q]? = z2.heap[q]? from setRow_other _ _ _ _ (by have := own_ge HO2.out q hq; omega)))
  have HB3 : Hid (Below w.heap.size w (z2.setRow r #[.slice A1 n c1, .slice A2 m c2, .int .i64 p.lv])) := Lib.hid (HB2.out.trans (HF.out.mono (by have := HRR.out; omega)))
  clear HF HO3 HO2 HB2 HR2
  generalize z2.setRow r #[.slice A1 n c1, .slice A2 m c2, .int .i64 p.lv] = z3 at *
  refine wpGrow_nil ?_
  repeat (go_big_quiet_step (fail))
  refine wpQuiet_nil ?_
  go_wp2_with fail
  refine bodyPost_ret (v := .agg #[.slice A1 n c1, .slice A2 m c2, .int .i64 p.lv]) (results_cell_row rfl _ _ r 24 #[.slice A1 n c1, .slice A2 m c2, .int .i64 p.lv] (0, 0) _ rfl HR3.out Try.underlying24 rfl po_size) rfl ?_
  rw [HL1.out, HL2.out]
  exact ⟨A1, c1, A2, c2, rfl, own_base HO4.out (by have := HRR.out; omega), own_base HO5.out (by have := HRR.out; omega), HAP.out, HB3.out⟩
end Go.Proofs.Ytdildmfjekdlgaa
