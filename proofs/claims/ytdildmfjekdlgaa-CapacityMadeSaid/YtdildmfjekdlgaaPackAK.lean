import Derived.Test.YtdildmfjekdlgaaPackAJ
/- Graphs: valid ones, and what comes of adding and taking away an edge. Plain facts. -/
namespace Go.Proofs.Ytdildmfjekdlgaa
open Go.RowKit
def ltE (a b : Edg) : Prop := a.fr < b.fr ∨ (a.fr = b.fr ∧ a.tu < b.tu)
theorem befE_iff (a b : Edg) : befE a b = true ↔ ltE a b := by
  unfold befE ltE
  by_cases h : a.fr < b.fr
  · rw [if_pos h]; simp [h]
  · rw [if_neg h]
    by_cases k : a.fr = b.fr
    · rw [if_pos k]; simp [k]
    · rw [if_neg k]; simp [h, k]
theorem ltE_trans {a b c : Edg} (h : ltE a b) (k : ltE b c) : ltE a c := by unfold ltE at *; omega
theorem getDE {l : List Edg} {i : Nat} (h : i < l.length) : l.getD i noEdg = l[i] := by rw [List.getD_eq_getElem?_getD, List.getElem?_eq_getElem h]; rfl
theorem memE {l : List Edg} {y : Edg} : y ∈ l ↔ ∃ i, i < l.length ∧ l.getD i noEdg = y := by
  rw [List.mem_iff_getElem]
  constructor
  · rintro ⟨i, hi, he⟩; exact ⟨i, hi, by rw [getDE hi]; exact he⟩
  · rintro ⟨i, hi, he⟩; exact ⟨i, hi, by rw [← getDE hi]; exact he⟩
theorem asc_pair {α : Type} {r : α → α → Prop} (ht : ∀ a b c, r a b → r b c → r a c) : ∀ {l : List α}, (∀ i (h : i + 1 < l.length), r l[i] l[i + 1]) → l.Pairwise r
  | [], _ => List.Pairwise.nil
  | a :: l, h => by
    have ih : l.Pairwise r := asc_pair ht fun i hi => by have := h (i + 1) (by simpa using hi); simpa using this
    refine List.Pairwise.cons (fun b hb => ?_) ih
    cases l with
    | nil => cases hb
    | cons c m =>
      have h0 : r a c := by have := h 0 (by simp); simpa using this
      rcases List.mem_cons.1 hb with rfl | hb
      · exact h0
      · exact ht _ _ _ h0 ((List.pairwise_cons.1 ih).1 b hb)
theorem pair_at {α : Type} {r : α → α → Prop} {l : List α} (h : l.Pairwise r) {i j : Nat} (hij : i < j) (hj : j < l.length) : r l[i] l[j] := List.pairwise_iff_getElem.1 h i j (by omega) hj hij
/-- A valid graph. -/
structure Good11 (G : Gr) : Prop where
  lo : 0 ≤ G.sz
  hi : G.sz ≤ 64
  len : G.es.length ≤ 500
  set : setB G.gn G.sz = true
  ends : ∀ e ∈ G.es, endsB G.sz e = true
  lev : ∀ e ∈ G.es, levB e = true
  asc : G.es.Pairwise ltE
  free : ∀ e ∈ G.es, freeB G.gn e = true
theorem okG_iff (G : Gr) : okG G = true ↔ Good11 G := by
  constructor
  · intro h
    unfold okG at h
    rw [Bool.and_eq_true, List.all_eq_true] at h
    obtain ⟨h0, h1⟩ := h
    unfold headB at h0
    rw [Bool.and_eq_true, Bool.and_eq_true, Bool.and_eq_true, decide_eq_true_eq, decide_eq_true_eq, decide_eq_true_eq] at h0
    have hk : ∀ i, i < G.es.length → endsB G.sz (G.es.getD i noEdg) = true ∧ levB (G.es.getD i noEdg) = true ∧ nextB G.es i = true ∧ freeB G.gn (G.es.getD i noEdg) = true := fun i hi => by
      have := h1 i (List.mem_range.2 hi)
      unfold okE at this
      rw [Bool.and_eq_true, Bool.and_eq_true, Bool.and_eq_true] at this
      exact this
    refine ⟨h0.1, h0.2.1, h0.2.2.1, h0.2.2.2, fun e he => ?_, fun e he => ?_, ?_, fun e he => ?_⟩
    · obtain ⟨i, hi, rfl⟩ := memE.1 he; exact (hk i hi).1
    · obtain ⟨i, hi, rfl⟩ := memE.1 he; exact (hk i hi).2.1
    · refine asc_pair (r := ltE) (fun _ _ _ h k => ltE_trans h k) fun i hi => ?_
      have := (hk (i + 1) hi).2.2.1
      unfold nextB at this
      rw [Bool.or_eq_true, decide_eq_true_eq] at this
      rcases this with h | h
      · exact absurd h (Nat.succ_ne_zero _)
      · rw [befE_iff, Nat.add_sub_cancel, getDE (by omega), getDE hi] at h; exact h
    · obtain ⟨i, hi, rfl⟩ := memE.1 he; exact (hk i hi).2.2.2
  · intro h
    refine okG_yes ?_ fun i hi => ?_
    · unfold headB
      rw [decide_eq_true h.lo, decide_eq_true h.hi, decide_eq_true h.len, h.set]; rfl
    · have hm : G.es.getD i noEdg ∈ G.es := memE.2 ⟨i, hi, rfl⟩
      unfold okE nextB
      rw [h.ends _ hm, h.lev _ hm, h.free _ hm]
      by_cases h0 : i = 0
      · rw [decide_eq_true h0]; rfl
      · have : befE (G.es.getD (i - 1) noEdg) (G.es.getD i noEdg) = true := by
          rw [befE_iff, getDE (by omega), getDE hi]
          exact pair_at h.asc (by omega) hi
        rw [this]; simp
/-- Where an edge stands among ascending ones. -/
theorem idx_below {l : List Edg} {x e : Edg} (he : e ∈ l.take (idxE x l)) : ltE e x := by
  obtain ⟨i, hi, rfl⟩ := memE.1 he
  rw [List.length_take] at hi
  have h1 := idxE_low x l i (by omega)
  rw [befE_iff] at h1
  rwa [List.getD_eq_getElem?_getD, List.getElem?_take_of_lt (by omega), ← List.getD_eq_getElem?_getD]
theorem idx_above {l : List Edg} {x e : Edg} (hl : l.Pairwise ltE) (hn : thereE x l = false) (he : e ∈ l.drop (idxE x l)) : ltE x e := by
  obtain ⟨i, hi, rfl⟩ := memE.1 he
  rw [List.length_drop] at hi
  have hlt : idxE x l < l.length := by omega
  have h1 := idxE_at x l hlt
  have h2 : ¬ ltE (l.getD (idxE x l) noEdg) x := by rw [← befE_iff, h1]; decide
  have h3 : ¬ ((l.getD (idxE x l) noEdg).fr = x.fr ∧ (l.getD (idxE x l) noEdg).tu = x.tu) := fun q => by
    unfold thereE at hn
    rw [decide_eq_true hlt, decide_eq_true q.1, decide_eq_true q.2] at hn
    cases hn
  have h4 : ltE x (l.getD (idxE x l) noEdg) := by unfold ltE at *; omega
  rw [List.getD_eq_getElem?_getD, List.getElem?_drop, ← List.getD_eq_getElem?_getD]
  by_cases h0 : i = 0
  · rw [h0, Nat.add_zero]; exact h4
  · refine ltE_trans h4 ?_
    rw [getDE hlt, getDE (by omega)]
    exact pair_at hl (by omega) (by omega)
theorem with_good {G : Gr} {e : Edg} (h : (withG G e).2 = 0) : Good11 G ∧ Good11 (withG G e).1 ∧ (withG G e).1 = ⟨G.sz, G.es.take (idxE e G.es) ++ e :: G.es.drop (idxE e G.es), G.gn⟩ ∧ thereE e G.es = false := by
  unfold withG at h ⊢
  split at h
  · exact absurd h (by decide)
  · rename_i h0
    rw [if_neg h0]
    split at h
    · exact absurd h (by decide)
    · rename_i h1
      rw [if_neg h1]
      split at h
      · exact absurd h (by decide)
      · rename_i h2
        rw [if_neg h2]
        split at h
        · exact absurd h (by decide)
        · rename_i h3
          rw [if_neg h3]
          split at h
          · exact absurd h (by decide)
          · rename_i h4
            rw [if_neg h4]
            split at h
            · exact absurd h (by decide)
            · rename_i h5
              rw [if_neg h5]
              have hG := (okG_iff G).1 (by simpa using h0)
              have hn : thereE e G.es = false := by simpa using h4
              have hm : ∀ y, y ∈ G.es.take (idxE e G.es) ++ e :: G.es.drop (idxE e G.es) → y = e ∨ y ∈ G.es := fun y hy => by
                rcases List.mem_append.1 hy with hy | hy
                · exact .inr (List.mem_of_mem_take hy)
                · rcases List.mem_cons.1 hy with hy | hy
                  · exact .inl hy
                  · exact .inr (List.mem_of_mem_drop hy)
              have hle := idxE_le e G.es
              have hl5 := hG.len
              refine ⟨hG, ⟨hG.lo, hG.hi, ?_, hG.set, fun y hy => ?_, fun y hy => ?_, ?_, fun y hy => ?_⟩, rfl, hn⟩
              · simp only [List.length_append, List.length_take, List.length_cons, List.length_drop]; omega
              · rcases hm y hy with rfl | hy; simpa using h1; exact hG.ends y hy
              · rcases hm y hy with rfl | hy; simpa using h3; exact hG.lev y hy
              · refine List.pairwise_append.2 ⟨hG.asc.sublist (List.take_sublist _ _), List.pairwise_cons.2 ⟨fun y hy => idx_above hG.asc hn hy, hG.asc.sublist (List.drop_sublist _ _)⟩, fun a ha b hb => ?_⟩
                have h1 := idx_below ha
                rcases List.mem_cons.1 hb with rfl | hb
                · exact h1
                · exact ltE_trans h1 (idx_above hG.asc hn hb)
              · rcases hm y hy with rfl | hy; simpa using h2; exact hG.free y hy
end Go.Proofs.Ytdildmfjekdlgaa
/- Distances: what makes a list of numbers the distances of a graph's keys; there is one such list alone. Plain facts. -/
namespace Go.Proofs.Ytdildmfjekdlgaa
open Go.RowKit
/-- The number at a place. -/
def dAt (d : List Int) (k : Int) : Int := d.getD k.toNat (-1)
/-- d are the distances of the keys below z, along the edges, from the keys that sd says. -/
structure IsDist (z : Nat) (es : List Edg) (sd : Int → Bool) (d : List Int) : Prop where
  len : d.length = z
  zero : ∀ k : Int, 0 ≤ k → k < z → (dAt d k = 0 ↔ sd k = true)
  low : ∀ k : Int, 0 ≤ k → k < z → -1 ≤ dAt d k
  step : ∀ k : Int, 0 ≤ k → k < z → ∀ n : Nat, dAt d k = (n : Int) + 1 → ∃ e ∈ es, e.tu = k ∧ 0 ≤ e.fr ∧ e.fr < z ∧ dAt d e.fr = n
  edge : ∀ e ∈ es, 0 ≤ e.fr → e.fr < z → 0 ≤ e.tu → e.tu < z → 0 ≤ dAt d e.fr → 0 ≤ dAt d e.tu ∧ dAt d e.tu ≤ dAt d e.fr + 1
theorem IsDist.half {z : Nat} {es : List Edg} {sd : Int → Bool} {d d' : List Int} (h : IsDist z es sd d) (h' : IsDist z es sd d') (n : Nat) (ih : ∀ m, m < n → ∀ k : Int, 0 ≤ k → k < z → (dAt d k = (m : Int) ↔ dAt d' k = (m : Int))) (k : Int) (h0 : 0 ≤ k) (hk : k < z) (hd : dAt d k = (n : Int)) : dAt d' k = (n : Int) := by
  cases n with
  | zero => exact (h'.zero k h0 hk).2 ((h.zero k h0 hk).1 hd)
  | succ n =>
    obtain ⟨e, he, h1, h2, h3, h4⟩ := h.step k h0 hk n (by rw [hd]; omega)
    have h5 := (ih n (by omega) e.fr h2 h3).1 h4
    have h6 := h'.edge e he h2 h3 (by omega) (by omega) (by omega)
    rw [h1] at h6
    rcases Int.lt_or_le (dAt d' k) ((n + 1 : Nat) : Int) with h7 | h7
    · obtain ⟨m, hm⟩ : ∃ m : Nat, dAt d' k = (m : Int) := ⟨(dAt d' k).toNat, by omega⟩
      have h8 := (ih m (by omega) k h0 hk).2 hm
      omega
    · omega
theorem IsDist.same {z : Nat} {es : List Edg} {sd : Int → Bool} {d d' : List Int} (h : IsDist z es sd d) (h' : IsDist z es sd d') : ∀ (n : Nat) (k : Int), 0 ≤ k → k < z → (dAt d k = (n : Int) ↔ dAt d' k = (n : Int)) := by
  intro n
  induction n using Nat.strongRecOn with
  | _ n ih => exact fun k h0 hk => ⟨h.half h' n ih k h0 hk, h'.half h n (fun m hm k h0 hk => (ih m hm k h0 hk).symm) k h0 hk⟩
theorem IsDist.uniq {z : Nat} {es : List Edg} {sd : Int → Bool} {d d' : List Int} (h : IsDist z es sd d) (h' : IsDist z es sd d') : d = d' := by
  apply List.ext_getElem
  · rw [h.len, h'.len]
  · intro k h1 h2
    have hk : (k : Int) < z := by rw [h.len] at h1; omega
    have hs := h.same h'
    have e1 : dAt d (k : Int) = d[k] := by unfold dAt; rw [Int.toNat_natCast, List.getD_eq_getElem?_getD, List.getElem?_eq_getElem h1]; rfl
    have e2 : dAt d' (k : Int) = d'[k] := by unfold dAt; rw [Int.toNat_natCast, List.getD_eq_getElem?_getD, List.getElem?_eq_getElem h2]; rfl
    have l1 := h.low (k : Int) (by omega) hk
    have l2 := h'.low (k : Int) (by omega) hk
    rw [← e1, ← e2]
    rcases Int.lt_or_le (dAt d (k : Int)) 0 with h3 | h3
    · rcases Int.lt_or_le (dAt d' (k : Int)) 0 with h4 | h4
      · omega
      · have h5 := (hs (dAt d' (k : Int)).toNat (k : Int) (by omega) hk).2 (by omega)
        omega
    · have h5 := (hs (dAt d (k : Int)).toNat (k : Int) (by omega) hk).1 (by omega)
      omega
/-- Different numbers below z are at most z. -/
theorem nodup_below : ∀ (z : Nat) (l : List Nat), l.Nodup → (∀ x ∈ l, x < z) → l.length ≤ z
  | 0, l, _, h => by
    cases l with
    | nil => exact Nat.le_refl _
    | cons x l => exact absurd (h x (List.mem_cons_self ..)) (Nat.not_lt_zero _)
  | z + 1, l, hn, h => by
    by_cases hm : z ∈ l
    · have h1 := nodup_below z (l.erase z) (hn.erase z) fun x hx => by
        have h2 := h x (List.mem_of_mem_erase hx)
        have h3 : x ≠ z := fun e => by
          rw [e] at hx
          exact (List.Nodup.not_mem_erase hn) hx
        omega
      rw [List.length_erase_of_mem hm] at h1
      omega
    · exact Nat.le_succ_of_le (nodup_below z l hn fun x hx => by
        have h2 := h x hx
        have h3 : x ≠ z := fun e => hm (by rw [← e]; exact hx)
        omega)
/-- Where each distance has one that is less by one, a distance is less than the number of keys. -/
theorem dist_lt {z : Nat} {d : List Int} (step : ∀ k : Int, 0 ≤ k → k < z → ∀ n : Nat, dAt d k = (n : Int) + 1 → ∃ j : Int, 0 ≤ j ∧ j < z ∧ dAt d j = n) {k : Int} (h0 : 0 ≤ k) (hk : k < z) {m : Nat} (hm : dAt d k = (m : Int)) : m < z := by
  have h : ∀ (m : Nat) (k : Int), 0 ≤ k → k < z → dAt d k = (m : Int) → ∃ l : List Nat, l.length = m + 1 ∧ l.Nodup ∧ (∀ x ∈ l, x < z ∧ dAt d (x : Int) ≤ (m : Int)) := by
    intro m
    induction m with
    | zero => exact fun k h0 hk hd => ⟨[k.toNat], rfl, by simp, fun x hx => by
        rw [List.mem_singleton.1 hx]
        exact ⟨by omega, by rw [show ((k.toNat : Nat) : Int) = k by omega, hd]; exact Int.le_refl _⟩⟩
    | succ m ih =>
      intro k h0 hk hd
      obtain ⟨j, hj0, hjz, hj⟩ := step k h0 hk m (by rw [hd]; omega)
      obtain ⟨l, hl, hn, hx⟩ := ih j hj0 hjz hj
      refine ⟨k.toNat :: l, by simp [hl], List.nodup_cons.2 ⟨fun hmem => ?_, hn⟩, fun x hmem => ?_⟩
      · have h1 := (hx _ hmem).2
        rw [show ((k.toNat : Nat) : Int) = k by omega, hd] at h1
        omega
      · rcases List.mem_cons.1 hmem with rfl | hmem
        · exact ⟨by omega, by rw [show ((k.toNat : Nat) : Int) = k by omega, hd]; exact Int.le_refl _⟩
        · have h1 := hx x hmem
          exact ⟨h1.1, by omega⟩
  obtain ⟨l, hl, hn, hx⟩ := h m k h0 hk hm
  have := nodup_below z l hn fun x hm => (hx x hm).1
  omega
theorem IsDist.lt {z : Nat} {es : List Edg} {sd : Int → Bool} {d : List Int} (h : IsDist z es sd d) {k : Int} (h0 : 0 ≤ k) (hk : k < z) : dAt d k < z := by
  rcases Int.lt_or_le (dAt d k) 0 with h1 | h1
  · omega
  · have h2 := dist_lt (fun k h0 hk n hd => by obtain ⟨e, _, _, h2, h3, h4⟩ := h.step k h0 hk n hd; exact ⟨e.fr, h2, h3, h4⟩) h0 hk (m := (dAt d k).toNat) (by omega)
    omega
end Go.Proofs.Ytdildmfjekdlgaa
/- Distances: what the reference's rounds give are distances. Plain facts. -/
namespace Go.Proofs.Ytdildmfjekdlgaa
open Go.RowKit
def initD (z : Nat) (sd : Int → Bool) : List Int := (List.range z).map fun k : Nat => if sd (k : Int) then (0 : Int) else -1
def stepD (n : Nat) (d : List Int) (e : Edg) : List Int := if dAt d e.fr = (n : Int) ∧ dAt d e.tu = -1 then d.set e.tu.toNat ((n : Int) + 1) else d
def roundD (es : List Edg) (n : Nat) (d : List Int) : List Int := es.foldl (stepD n) d
def roundsD (es : List Edg) : Nat → List Int → List Int
  | 0, d => d
  | n + 1, d => roundD es n (roundsD es n d)
theorem dAt_set {d : List Int} {t : Int} (ht : t.toNat < d.length) (v k : Int) : dAt (d.set t.toNat v) k = if t.toNat = k.toNat then v else dAt d k := by
  unfold dAt
  rw [List.getD_eq_getElem?_getD, List.getElem?_set, List.getD_eq_getElem?_getD]
  split
  · rename_i h
    first | (rw [if_pos ht]; rfl) | rfl
  · rfl
theorem dAt_init {z : Nat} {sd : Int → Bool} {k : Int} (h0 : 0 ≤ k) (hk : k < z) : dAt (initD z sd) k = if sd k then 0 else -1 := by
  have h1 : (initD z sd)[k.toNat]? = some (if sd ((k.toNat : Nat) : Int) then (0 : Int) else -1) := by
    unfold initD
    rw [List.getElem?_map, List.getElem?_range (by omega)]
    rfl
  unfold dAt
  rw [List.getD_eq_getElem?_getD, h1, show ((k.toNat : Nat) : Int) = k by omega]
  rfl
/-- Between two edges of a round. -/
structure MidD (z : Nat) (es : List Edg) (sd : Int → Bool) (n : Nat) (p : List Edg) (d : List Int) : Prop where
  len : d.length = z
  zero : ∀ k : Int, 0 ≤ k → k < z → (dAt d k = 0 ↔ sd k = true)
  low : ∀ k : Int, 0 ≤ k → k < z → -1 ≤ dAt d k
  up : ∀ k : Int, 0 ≤ k → k < z → dAt d k ≤ (n : Int) + 1
  step : ∀ k : Int, 0 ≤ k → k < z → ∀ m : Nat, dAt d k = (m : Int) + 1 → ∃ e ∈ es, e.tu = k ∧ 0 ≤ e.fr ∧ e.fr < z ∧ dAt d e.fr = m
  edge : ∀ e ∈ es, 0 ≤ dAt d e.fr → dAt d e.fr < (n : Int) → 0 ≤ dAt d e.tu ∧ dAt d e.tu ≤ dAt d e.fr + 1
  done : ∀ e ∈ p, dAt d e.fr = (n : Int) → 0 ≤ dAt d e.tu
def InZ (z : Nat) (e : Edg) : Prop := 0 ≤ e.fr ∧ e.fr < z ∧ 0 ≤ e.tu ∧ e.tu < z
theorem MidD.next {z : Nat} {es : List Edg} {sd : Int → Bool} {n : Nat} {p : List Edg} {d : List Int} (hz : ∀ e ∈ es, InZ z e) (hp : ∀ e ∈ p, e ∈ es) (h : MidD z es sd n p d) {e : Edg} (he : e ∈ es) : MidD z es sd n (p ++ [e]) (stepD n d e) := by
  obtain ⟨f0, f1, t0, t1⟩ := hz e he
  unfold stepD
  split
  · rename_i hc
    obtain ⟨hf, ht⟩ := hc
    have hl : e.tu.toNat < d.length := by rw [h.len]; omega
    have hs : ∀ k : Int, 0 ≤ k → dAt (d.set e.tu.toNat ((n : Int) + 1)) k = if k = e.tu then (n : Int) + 1 else dAt d k := by
      intro k hk
      rw [dAt_set hl]
      by_cases hh : k = e.tu
      · rw [if_pos hh, if_pos (by rw [hh])]
      · rw [if_neg hh, if_neg (by omega)]
    have hne : e.fr ≠ e.tu := fun q => by rw [q, ht] at hf; omega
    refine ⟨by rw [List.length_set]; exact h.len, fun k h0 hk => ?_, fun k h0 hk => ?_, fun k h0 hk => ?_, fun k h0 hk m hm => ?_, fun x hx h0 h1 => ?_, fun x hx h1 => ?_⟩
    · rw [hs k h0]
      split
      · rename_i q
        have h2 := h.zero k h0 hk
        rw [q, ht] at h2
        rw [q]
        constructor
        · intro q2; omega
        · intro q2; have := h2.2 q2; omega
      · exact h.zero k h0 hk
    · rw [hs k h0]
      split
      · omega
      · exact h.low k h0 hk
    · rw [hs k h0]
      split
      · exact Int.le_refl _
      · exact h.up k h0 hk
    · rw [hs k h0] at hm
      split at hm
      · rename_i q
        refine ⟨e, he, q.symm, f0, f1, ?_⟩
        rw [hs _ f0, if_neg hne]
        omega
      · obtain ⟨x, hx, g1, g2, g3, g4⟩ := h.step k h0 hk m hm
        refine ⟨x, hx, g1, g2, g3, ?_⟩
        rw [hs _ g2, if_neg (fun q => by rw [q, ht] at g4; omega)]
        exact g4
    · obtain ⟨g0, g1, g2, g3⟩ := hz x hx
      rw [hs _ g0] at h0 h1 ⊢
      split at h1
      · omega
      · rename_i q
        rw [if_neg q] at h0 ⊢
        have h2 := h.edge x hx h0 h1
        rw [hs _ g2, if_neg (fun q2 => by rw [q2, ht] at h2; omega)]
        exact h2
    · rcases List.mem_append.1 hx with hx | hx
      · obtain ⟨g0, g1, g2, g3⟩ := hz x (hp x hx)
        rw [hs _ g0] at h1
        split at h1
        · omega
        · have h2 := h.done x hx h1
          rw [hs _ g2]
          split
          · omega
          · exact h2
      · rw [List.mem_singleton.1 hx, hs _ t0, if_pos rfl]
        omega
  · rename_i hc
    refine ⟨h.len, h.zero, h.low, h.up, h.step, h.edge, fun x hx h1 => ?_⟩
    rcases List.mem_append.1 hx with hx | hx
    · exact h.done x hx h1
    · rw [List.mem_singleton.1 hx] at h1 ⊢
      have h2 := h.low e.tu t0 t1
      by_cases h3 : dAt d e.tu = -1
      · exact absurd ⟨h1, h3⟩ hc
      · omega
theorem MidD.round {z : Nat} {es : List Edg} {sd : Int → Bool} {n : Nat} (hz : ∀ e ∈ es, InZ z e) : ∀ (q p : List Edg) (d : List Int), p ++ q = es → MidD z es sd n p d → MidD z es sd n es (q.foldl (stepD n) d)
  | [], p, d, h, hm => by
    rw [List.append_nil] at h
    rw [← h]
    rw [← h] at hm
    exact hm
  | e :: q, p, d, h, hm => by
    have he : e ∈ es := by rw [← h]; simp
    have hp : ∀ x ∈ p, x ∈ es := fun x hx => by rw [← h]; exact List.mem_append_left _ hx
    exact MidD.round hz q (p ++ [e]) _ (by rw [List.append_assoc]; exact h) (hm.next hz hp he)
theorem rounds_mid {z : Nat} {es : List Edg} {sd : Int → Bool} (hz : ∀ e ∈ es, InZ z e) : ∀ n : Nat, MidD z es sd n [] (roundsD es n (initD z sd)) ∧ (∀ k : Int, 0 ≤ k → k < z → dAt (roundsD es n (initD z sd)) k ≤ (n : Int))
  | 0 => by
    have hi : ∀ k : Int, 0 ≤ k → k < z → dAt (initD z sd) k = if sd k then 0 else -1 := fun k h0 hk => dAt_init h0 hk
    unfold roundsD
    refine ⟨⟨by unfold initD; rw [List.length_map, List.length_range], fun k h0 hk => ?_, fun k h0 hk => ?_, fun k h0 hk => ?_, fun k h0 hk m hm => ?_, fun e he h0 h1 => absurd h0 (by omega), fun e he => nomatch he⟩, fun k h0 hk => ?_⟩
    · rw [hi k h0 hk]; cases sd k <;> simp
    · rw [hi k h0 hk]; split <;> omega
    · rw [hi k h0 hk]; split <;> omega
    · rw [hi k h0 hk] at hm; split at hm <;> omega
    · rw [hi k h0 hk]; split <;> omega
  | n + 1 => by
    obtain ⟨h1, h2⟩ := rounds_mid hz n
    have h3 := MidD.round hz es [] _ rfl h1
    unfold roundsD roundD
    refine ⟨⟨h3.len, h3.zero, h3.low, fun k h0 hk => by have := h3.up k h0 hk; omega, h3.step, fun e he h0 hlt => ?_, fun e he => nomatch he⟩, fun k h0 hk => by have := h3.up k h0 hk; omega⟩
    obtain ⟨g0, g1, g2, g3⟩ := hz e he
    rcases Int.lt_or_le (dAt (es.foldl (stepD n) (roundsD es n (initD z sd))) e.fr) (n : Int) with h4 | h4
    · exact h3.edge e he h0 h4
    · have h5 : dAt (es.foldl (stepD n) (roundsD es n (initD z sd))) e.fr = (n : Int) := by omega
      refine ⟨h3.done e he h5, ?_⟩
      have h6 := h3.up e.tu g2 g3
      omega
/-- The rounds' end: distances. -/
theorem rounds_dist {z : Nat} {es : List Edg} {sd : Int → Bool} (hz : ∀ e ∈ es, InZ z e) : IsDist z es sd (roundsD es z (initD z sd)) := by
  obtain ⟨h, -⟩ := rounds_mid (sd := sd) hz z
  refine ⟨h.len, h.zero, h.low, h.step, fun e he f0 f1 t0 t1 hd => ?_⟩
  have h1 := dist_lt (fun k h0 hk n hd => by obtain ⟨e, _, _, h2, h3, h4⟩ := h.step k h0 hk n hd; exact ⟨e.fr, h2, h3, h4⟩) f0 f1 (m := (dAt (roundsD es z (initD z sd)) e.fr).toNat) (by omega)
  exact h.edge e he hd (by omega)
end Go.Proofs.Ytdildmfjekdlgaa
/- Distances: with more edges and more seeds none becomes greater; the order of keys. Plain facts. -/
namespace Go.Proofs.Ytdildmfjekdlgaa
open Go.RowKit
theorem IsDist.more {z : Nat} {es es' : List Edg} {sd sd' : Int → Bool} {d d' : List Int} (h : IsDist z es sd d) (h' : IsDist z es' sd' d') (he : ∀ e ∈ es, InZ z e ∧ ∃ x ∈ es', x.fr = e.fr ∧ x.tu = e.tu) (hs : ∀ k : Int, sd k = true → sd' k = true) : ∀ (n : Nat) (k : Int), 0 ≤ k → k < z → dAt d k = (n : Int) → 0 ≤ dAt d' k ∧ dAt d' k ≤ (n : Int)
  | 0, k, h0, hk, hd => by
    have h1 := (h'.zero k h0 hk).2 (hs k ((h.zero k h0 hk).1 hd))
    omega
  | n + 1, k, h0, hk, hd => by
    obtain ⟨e, hm, h1, h2, h3, h4⟩ := h.step k h0 hk n (by rw [hd]; omega)
    obtain ⟨hz, x, hx, h5, h6⟩ := he e hm
    have h7 := IsDist.more h h' he hs n e.fr h2 h3 h4
    have h8 := h'.edge x hx (by rw [h5]; exact h2) (by rw [h5]; exact h3) (by rw [h6]; exact hz.2.2.1) (by rw [h6]; exact hz.2.2.2) (by rw [h5]; exact h7.1)
    rw [h5, h6, h1] at h8
    omega
end Go.Proofs.Ytdildmfjekdlgaa
/- Graphs: the walk of the reference's Copy. -/
namespace Go.Proofs.Ytdildmfjekdlgaa
open Go.RowKit
theorem edg_info : (Try.prog.info? 45).map (fun i => (i.zero, i.size, i.bytes)) = some (some (.agg #[.int .i64 0, .int .i64 0, .int .i64 0]), 3, 24) := by kernel_rfl
theorem edg_size : (Try.prog.info? 45).map (·.size) = some 3 := by kernel_rfl
theorem gr_size : (Try.prog.info? 31).map (·.size) = some 3 := by kernel_rfl
theorem fold3 (p : Edg) : Array.foldl (fun (cs : Array Value) (x : Value × Nat) => cs.setIfInBounds x.snd x.fst) #[.int .i64 0, .int .i64 0, .int .i64 0] p.arr.zipIdx 0 p.arr.size = p.arr := by kernel_rfl
theorem fold3n (p : Edg) : Array.foldl (fun (cs : Array Value) (x : Value × Nat) => cs.setIfInBounds x.snd x.fst) #[.int .i64 0, .int .i64 0, .int .i64 0] p.arr.zipIdx 0 3 = p.arr := fold3 p
theorem own_base {w : World} {B B' : Nat} {e : TypeId} {sz : Nat} {v : Value} {n : Nat} {xs : List Value} (h : w.ownsRow B e sz v n xs) (hb : B' ≤ B) : w.ownsRow B' e sz v n xs := by
  refine ⟨h.1, ?_⟩
  rcases h.2 with hn | ⟨g, cap, cur, rfl, hg, rest⟩
  · exact .inl hn
  · exact .inr ⟨g, cap, cur, rfl, Nat.le_trans hb hg, rest⟩
set_option maxRecDepth 100000 in
set_option maxHeartbeats 4000000 in
theorem gcopy_any (G : Gr) (v : Value) (w : World) (h : GHold w G v) (he : G.es.length ≤ 100000) (hg : G.gn.length ≤ 100000) : Calls Try.prog 21 #[v] w (GivesGO w G) := by
  obtain ⟨A, n, c, B, m, k, rfl, h1, h2⟩ := h
  have hn : n ≤ 100000 := by rw [← ERow.len h1]; exact he
  have hm : m ≤ 100000 := by rw [← h2.len]; exact hg
  have HL1 : Hid (G.es.length = n) := Lib.hid (ERow.len h1)
  have HL2 : Hid (G.gn.length = m) := Lib.hid h2.len
  have HB0 : Hid (Below w.heap.size w ((w.alloc (.cells #[.int .i64 G.sz, .slice A n c, .slice B m k] 31)).alloc (.cells #[.int .i64 0, .slice none 0 0, .slice none 0 0] 31))) := Lib.hid ((one_new w _).trans ((one_new _ _).mono (by simp)))
  have HX : Hid (((w.alloc (.cells #[.int .i64 G.sz, .slice A n c, .slice B m k] 31)).alloc (.cells #[.int .i64 0, .slice none 0 0, .slice none 0 0] 31)).heap[w.heap.size]? = some (.cells #[.int .i64 G.sz, .slice A n c, .slice B m k] 31 (0, 0))) := Lib.hid ((Below.heap_alloc _ _ _ (by simp)).trans (heap_alloc_new _ _))
  have HR : Hid (((w.alloc (.cells #[.int .i64 G.sz, .slice A n c, .slice B m k] 31)).alloc (.cells #[.int .i64 0, .slice none 0 0, .slice none 0 0] 31)).heap[w.heap.size + 1]? = some (.cells #[.int .i64 0, .slice none 0 0, .slice none 0 0] 31 (0, 0))) := Lib.hid (heap_alloc2_new _ _ _)
  have HS : Hid (((w.alloc (.cells #[.int .i64 G.sz, .slice A n c, .slice B m k] 31)).alloc (.cells #[.int .i64 0, .slice none 0 0, .slice none 0 0] 31)).heap.size = w.heap.size + 2) := Lib.hid (by simp)
  have H1 := Lib.hid h1; have H2 := Lib.hid h2
  clear h1 h2 he hg
  go_enter Try.func21, Try.ntmps21
  go_wp2_with fail
  obtain ⟨r, hr⟩ : ∃ r, w.heap.size + 1 = r := ⟨_, rfl⟩
  have HRR := Lib.hid hr
  refine wp_region_grow (by kernel_rfl) (Below r) (Below.refl r) (fun _ _ _ => Below.trans) [] [([0, 1, 2, 3, 5, 6], 4), ([], 7), ([], 8), ([], 9)] (by kernel_rfl) (by kernel_rfl) (by kernel_rfl) ?_
  simp only [List.map_cons, List.map_nil, pick, List.getD_cons_zero, List.getD_cons_succ]
  replace HB0 : Hid (Below w.heap.size w ((w.alloc (.cells #[.int .i64 G.sz, .slice A n c, .slice B m k] 31)).alloc (.cells #[.int .i64 0, .slice none 0 0, .slice none 0 0] 31)).drew) := Lib.hid HB0.out.drew
  replace HX : Hid (((w.alloc (.cells #[.int .i64 G.sz, .slice A n c, .slice B m k] 31)).alloc (.cells #[.int .i64 0, .slice none 0 0, .slice none 0 0] 31)).drew.heap[w.heap.size]? = _) := HX
  replace HR : Hid (((w.alloc (.cells #[.int .i64 G.sz, .slice A n c, .slice B m k] 31)).alloc (.cells #[.int .i64 0, .slice none 0 0, .slice none 0 0] 31)).drew.heap[w.heap.size + 1]? = _) := HR
  replace HS : Hid (((w.alloc (.cells #[.int .i64 G.sz, .slice A n c, .slice B m k] 31)).alloc (.cells #[.int .i64 0, .slice none 0 0, .slice none 0 0] 31)).drew.heap.size = w.heap.size + 2) := HS
  generalize ((w.alloc (.cells #[.int .i64 G.sz, .slice A n c, .slice B m k] 31)).alloc (.cells #[.int .i64 0, .slice none 0 0, .slice none 0 0] 31)).drew = z0 at *
  rw [hr] at HR
  have HN0 : Hid (r + 1 ≤ z0.heap.size) := Lib.hid (by rw [HS.out]; omega)
  clear HS
  have hgr : w.heap.size < r := by omega
  have hf0 := (fun x => (cell_of_row _ _ 0 _ _ _ (((fut_ok (Below.refl r) z0 x).block _ hgr).trans HX.out)).trans rfl : ∀ x, (fut (Below r) z0 x).cell? ⟨w.heap.size, 0, none⟩ = some (.int .i64 G.sz))
  have hf1 := (fun x => (cell_of_row _ _ 1 _ _ _ (((fut_ok (Below.refl r) z0 x).block _ hgr).trans HX.out)).trans rfl : ∀ x, (fut (Below r) z0 x).cell? ⟨w.heap.size, 1, none⟩ = some (.slice A n c))
  have hf2 := (fun x => (cell_of_row _ _ 2 _ _ _ (((fut_ok (Below.refl r) z0 x).block _ hgr).trans HX.out)).trans rfl : ∀ x, (fut (Below r) z0 x).cell? ⟨w.heap.size, 2, none⟩ = some (.slice B m k))
  clear hr hgr
  refine wpGrow_cons ?_
  repeat (go_big_quiet_step (fail))
  refine wpQuiet_nil ?_
  clear hf0 hf1 hf2
  go_wp2_with (at_builtin; go_must (refine wpList_app z0 rfl (.const (.slice none 0 0)) (.tmp 6) 29 29 45 rfl (r + 1) Try.underlying29 edg_info rfl _ 0 [] (World.ownsRow_nil _ _ _ _) rfl _ n (rowC Edg.cells G.es) (Row.src (GRow.later H1.out HB0.out) Try.underlying29 (rowC_ones Edg.ones _)) rfl (by unfold maxLen; omega) (by omega) HN0.out ?_); intro v1 z1 ho hb; rw [Nat.zero_add, List.nil_append] at ho; have HO1 := Lib.hid ho; have HF : Hid (Below (r + 1) z0 z1) := Lib.hid hb; clear ho hb)
  refine pieceEnd_normal ⟨HF.out.mono (Nat.le_succ r), ?_⟩
  have HN1 : Hid (r + 1 ≤ z1.heap.size) := Lib.hid (Nat.le_trans HN0.out HF.out.size)
  have HB1 : Hid (Below w.heap.size w z1) := Lib.hid (HB0.out.trans (HF.out.mono (by have := HRR.out; omega)))
  have HR1 : Hid (z1.heap[r]? = _) := Lib.hid ((HF.out.block r (Nat.lt_succ_self r)).trans HR.out)
  clear HF HR HX
  refine wpGrow_cons ?_
  refine wpQuiet_nil ?_
  go_wp2_with (at_builtin; go_must (refine wpList_app2 z1 rfl (.const (.slice none 0 0)) (.tmp 9) 22 22 3 rfl (r + 1) Try.underlying22 i64_info rfl _ 0 [] (World.ownsRow_nil _ _ _ _) rfl _ m (intsV G.gn) (Row.src (H2.out.later HB1.out) Try.underlying22 (intsV_one _)) rfl (by unfold maxLen; omega) (by omega) HN1.out ?_); intro v2 z2 ho hb hkp _; rw [Nat.zero_add, List.nil_append] at ho; have HO2 := Lib.hid ho; have HF : Hid (Below (r + 1) z1 z2) := Lib.hid hb; have HKP := Lib.hid hkp; clear ho hb hkp)
  refine pieceEnd_normal ⟨HF.out.mono (Nat.le_succ r), ?_⟩
  have HB2 : Hid (Below w.heap.size w z2) := Lib.hid (HB1.out.trans (HF.out.mono (by have := HRR.out; omega)))
  have HR2 : Hid (z2.heap[r]? = _) := Lib.hid ((HF.out.block r (Nat.lt_succ_self r)).trans HR1.out)
  have HO3 := Lib.hid (own_keepL HO1.out fun q hq => HKP.out q (own_lt HO1.out q hq) (by intro e; cases e))
  clear HF HR1 HO1 HKP
  obtain ⟨A1, c1, rfl, -⟩ := Row.of_own HO3.out
  obtain ⟨A2, c2, rfl, -⟩ := Row.of_own HO2.out
  refine wpGrow_cons ?_
  refine wpQuiet_nil ?_
  go_wp2_with fail
  refine pieceEnd_normal ⟨Below.refl _ _, ?_⟩
  refine wpGrow_cons ?_
  refine wpQuiet_nil ?_
  rw [HRR.out]
  go_wp2_with (refine wpList_store_row rfl 31 (.tmp 2) (.tmp 11) rfl r #[.int .i64 G.sz, .slice A1 n c1, .slice A2 m c2] rfl rfl 31 _ HR2.out gr_size rfl (by simp [Value.oneCell']) ?_)
  have HF : Hid (Below r z2 (z2.setRow r #[.int .i64 G.sz, .slice A1 n c1, .slice A2 m c2])) := Lib.hid (below_setRow (Below.refl _ _) (Nat.le_refl r) _)
  refine pieceEnd_normal ⟨HF.out, ?_⟩
  have HR3 := Lib.hid (setRow_heap z2 r _ #[.int .i64 G.sz, .slice A1 n c1, .slice A2 m c2] _ _ HR2.out)
  have HO4 := Lib.hid (own_keepL HO3.out fun q hq => (show (z2.setRow r #[.int .i64 G.sz, .slice A1 n c1, .slice A2 m c2]).heap[q]? = z2.heap[q]? from setRow_other _ _ _ _ (by have := own_ge HO3.out q hq; omega)))
  have HO5 := Lib.hid (own_keepL HO2.out fun q hq => (show (z2.setRow r #[.int .i64 G.sz, .slice A1 n c1, .slice A2 m c2]).heap[q]? = z2.heap[q]? from setRow_other _ _ _ _ (by have := own_ge HO2.out q hq; omega)))
  have HB3 : Hid (Below w.heap.size w (z2.setRow r #[.int .i64 G.sz, .slice A1 n c1, .slice A2 m c2])) := Lib.hid (HB2.out.trans (HF.out.mono (by have := HRR.out; omega)))
  clear HF HO3 HO2 HB2 HR2
  generalize z2.setRow r #[.int .i64 G.sz, .slice A1 n c1, .slice A2 m c2] = z3 at *
  refine wpGrow_nil ?_
  repeat (go_big_quiet_step (fail))
  refine wpQuiet_nil ?_
  go_wp2_with fail
  refine bodyPost_ret (v := .agg #[.int .i64 G.sz, .slice A1 n c1, .slice A2 m c2]) (results_cell_row rfl _ _ r 31 #[.int .i64 G.sz, .slice A1 n c1, .slice A2 m c2] (0, 0) _ rfl HR3.out Try.underlying31 rfl gr_size) rfl ?_
  refine ⟨_, rfl, ?_, HB3.out⟩
  refine ⟨_, _, rfl, ?_, ?_⟩
  · rw [HL1.out]; exact own_base HO4.out (by have := HRR.out; omega)
  · rw [HL2.out]; exact own_base HO5.out (by have := HRR.out; omega)
end Go.Proofs.Ytdildmfjekdlgaa
/- Graphs: the walk of the reference's index. -/
namespace Go.Proofs.Ytdildmfjekdlgaa
open Go.RowKit
set_option maxRecDepth 100000 in
set_option maxHeartbeats 4000000 in
theorem gindex_any (G : Gr) (v : Value) (fr tu : Int) (w : World) (h : GHold w G v) (he : G.es.length ≤ 100000) : Calls Try.prog 33 #[v, .int .i64 fr, .int .i64 tu] w fun e w' => e = .returned (.tuple #[.int .i64 (idxE ⟨fr, tu, 0⟩ G.es : Nat), .bool (thereE ⟨fr, tu, 0⟩ G.es)]) ∧ Below w.heap.size w w' := by
  obtain ⟨A, n, c, B, m, k, rfl, h1, -⟩ := h
  have hn : n ≤ 100000 := by rw [← ERow.len h1]; exact he
  have HL1 : Hid (G.es.length = n) := Lib.hid (ERow.len h1)
  have HN := Lib.hid (one_new w (.cells #[.int .i64 G.sz, .slice A n c, .slice B m k] 31))
  have HX : Hid ((w.alloc (.cells #[.int .i64 G.sz, .slice A n c, .slice B m k] 31)).heap[w.heap.size]? = some (.cells #[.int .i64 G.sz, .slice A n c, .slice B m k] 31 (0, 0))) := Lib.hid (heap_alloc_new _ _)
  have H1 := Lib.hid h1
  have HTE : Hid (thereE ⟨fr, tu, 0⟩ G.es = (decide (idxE ⟨fr, tu, 0⟩ G.es < G.es.length) && (decide ((G.es.getD (idxE ⟨fr, tu, 0⟩ G.es) noEdg).fr = fr) && decide ((G.es.getD (idxE ⟨fr, tu, 0⟩ G.es) noEdg).tu = tu)))) := Lib.hid rfl
  have HIE : Hid (∀ q, q ≤ n → (∀ i, i < q → befE (G.es.getD i noEdg) ⟨fr, tu, 0⟩ = true) → (q < n → befE (G.es.getD q noEdg) ⟨fr, tu, 0⟩ = false) → idxE ⟨fr, tu, 0⟩ G.es = q) := Lib.hid fun q hq ha hb => idxE_eq (by rw [HL1.out]; exact hq) ha (by rw [HL1.out]; exact hb)
  generalize thereE ⟨fr, tu, 0⟩ G.es = TH at *
  clear h1 he
  go_enter Try.func33, Try.ntmps33
  go_upto_region 1 with fail
  generalize (w.alloc (.cells #[.int .i64 G.sz, .slice A n c, .slice B m k] 31)) = y0 at *
  have HXL : Hid (w.heap.size < y0.heap.size) := Lib.hid (Array.getElem?_eq_some_iff.1 HX.out).1
  go_upto_region 2 with fail
  go_loopw [8] (fun i wr => ∃ j : Nat, j ≤ n ∧ i = .int .i64 j ∧ Hid ((∀ q, q < j → befE (G.es.getD q noEdg) ⟨fr, tu, 0⟩ = true) ∧ Below y0.heap.size y0 wr)) (fun i _ => n - (intOf i).toNat)
  case atStart => exact ⟨0, Nat.zero_le _, rfl, Lib.hid ⟨fun q h => absurd h (Nat.not_lt_zero _), Below.refl _ _⟩⟩
  case round =>
    obtain ⟨j, hj, rfl, HQ⟩ := hrel
    have HXR : Hid (wr.heap[w.heap.size]? = some (.cells #[.int .i64 G.sz, .slice A n c, .slice B m k] 31 (0, 0))) := Lib.hid ((HQ.out.2.block _ HXL.out).trans HX.out)
    have HBR : Hid (Below w.heap.size w wr) := Lib.hid (HN.out.trans (HQ.out.2.mono HN.out.size))
    have HK := Lib.hid HQ.out.1; have HB := Lib.hid HQ.out.2
    have hg1 : wr.cell? ⟨w.heap.size, 1, none⟩ = some (.slice A n c) := (cell_of_row _ _ 1 _ _ _ HXR.out).trans rfl
    clear HQ
    by_cases hlt : j < n
    · have hlt2 : (j : Int) < (n : Int) := by omega
      obtain ⟨b, off, hA, hc⟩ := GRow.cells Edg.len (by decide) (GRow.later H1.out HBR.out) noEdg j hlt
      subst hA
      obtain ⟨p, hp⟩ : ∃ p, G.es.getD j noEdg = p := ⟨_, rfl⟩
      rw [hp] at hc
      have HP := Lib.hid hp
      have HC : Hid (∀ q, q < p.arr.size → wr.cell? ⟨b, off + j * 3 + q, none⟩ = p.arr[q]?) := Lib.hid fun q hq => (hc q hq).trans (by rw [← Edg.list, Array.getElem?_toList])
      clear hc hp
      go_wp2_with (refine wpList_load_cellsG rfl 45 (.tmp 18) rfl b (off + j * 3) rfl p.arr _ Try.underlying45 rfl p.info HC.out ?_)
      refine (before_any11 p ⟨fr, tu, 0⟩ wr).mono ?_
      rintro e w2 ⟨rfl, hb⟩
      have HB2 := Lib.hid (HB.out.trans (hb.mono HB.out.size))
      have HBW := Lib.hid (HBR.out.trans (hb.mono HBR.out.size))
      have HX2 : Hid (w2.heap[w.heap.size]? = some (.cells #[.int .i64 G.sz, .slice (some ⟨b, off, none⟩) n c, .slice B m k] 31 (0, 0))) := Lib.hid ((HB2.out.block _ HXL.out).trans HX.out)
      clear hb hg1 HB HBR HXR
      by_cases hbb : befE p ⟨fr, tu, 0⟩ = true
      · rw [hbb]
        have HK2 : Hid (∀ q, q < j + 1 → befE (G.es.getD q noEdg) ⟨fr, tu, 0⟩ = true) := Lib.hid fun q hq => by
          by_cases hqj : q = j
          · rw [hqj, HP.out]; exact hbb
          · exact HK.out q (by omega)
        clear hbb
        go_wp2_with fail
        exact ⟨⟨j + 1, by omega, by go_num, Lib.hid ⟨HK2.out, HB2.out⟩⟩, by simp [intOf]; omega⟩
      · have hbf : befE p ⟨fr, tu, 0⟩ = false := by simpa using hbb
        rw [hbf]
        have HI : Hid (idxE ⟨fr, tu, 0⟩ G.es = j) := Lib.hid (HIE.out j hj HK.out fun _ => by rw [HP.out]; exact hbf)
        clear hbb hbf
        have HWX := HBW; have HXX := HX2
        go_wp2_with fail
        refine wp_region_grow (by kernel_rfl) Later Later.refl (fun _ _ _ => Later.trans) [0, 1, 2, 3, 4, 5, 6, 7, 8, 9, 10, 11, 12, 13, 14, 15, 16, 17, 18, 19, 20, 21, 22, 23, 24, 25, 26, 27] [] (by kernel_rfl) (by kernel_rfl) (by kernel_rfl) ?_
        simp only [List.map_cons, List.map_nil, pick, List.getD_cons_zero, List.getD_cons_succ]
        have HB4 : Hid (Below w.heap.size w w2.drew) := Lib.hid HWX.out.drew
        have HX4 : Hid (w2.drew.heap[w.heap.size]? = some (.cells #[.int .i64 G.sz, .slice (some ⟨b, off, none⟩) n c, .slice B m k] 31 (0, 0))) := Lib.hid HXX.out
        have HZ4 : Hid (w.heap.size < w2.drew.heap.size) := Lib.hid (Array.getElem?_eq_some_iff.1 HX4.out).1
        have H14 : Hid (ERow w2.drew (some ⟨b, off, none⟩) n c G.es) := Lib.hid (GRow.later H1.out (HB4.out.mono (Nat.le_refl _)))
        clear HWX HXX
        generalize w2.drew = z4 at *
        have hf1 : ∀ x, (fut Later z4 x).cell? ⟨w.heap.size, 1, none⟩ = some (.slice (some ⟨b, off, none⟩) n c) := fun x => (cell_of_row _ _ 1 _ _ _ (((fut_ok Later.refl z4 x).block _ HZ4.out).trans HX4.out)).trans rfl
        obtain ⟨b2, off2, hA2, hfe⟩ := GRow.futs (F := Later) Later.refl Edg.len (by decide) (fun _ h => h) H14.out noEdg j hlt
        injection hA2 with hA2
        injection hA2 with e1 e2
        subst e1 e2
        have hfe0 : ∀ x, (fut Later z4 x).cell? ⟨b, off + j * 3, none⟩ = some (.int .i64 p.fr) := fun x => by have h := hfe x 0 (by decide); rw [HP.out] at h; exact h
        have hfe1 : ∀ x, (fut Later z4 x).cell? ⟨b, off + j * 3 + 1, none⟩ = some (.int .i64 p.tu) := fun x => by have h := hfe x 1 (by decide); rw [HP.out] at h; exact h
        clear hfe
        have HTE2 : Hid (TH = (decide (p.fr = fr) && decide (p.tu = tu))) := Lib.hid (by rw [HTE.out, HI.out, HP.out, decide_eq_true (by rw [HL1.out]; exact hlt), Bool.true_and])
        by_cases k0 : p.fr = fr
        · have b0 : (p.fr == fr) = true := by rw [k0]; simp
          by_cases k1 : p.tu = tu
          · have b1 : (p.tu == tu) = true := by rw [k1]; simp
            have HT : Hid (TH = true) := Lib.hid (by rw [HTE2.out, decide_eq_true k0, decide_eq_true k1]; rfl)
            clear k0 k1
            refine wpGrow_nil ?_
            repeat (go_big_quiet_step (fail))
            refine wpQuiet_nil ?_
            clear hf1 hfe0 hfe1 b0 b1
            go_wp2_with fail
            go_ret2
            exact ⟨by rw [HI.out, HT.out]; rfl, HB4.out⟩
          · have b1 : (p.tu == tu) = false := by rw [beq_eq_false_iff_ne]; exact k1
            have HT : Hid (TH = false) := Lib.hid (by rw [HTE2.out, decide_eq_false k1, Bool.and_false])
            clear k0 k1
            refine wpGrow_nil ?_
            repeat (go_big_quiet_step (fail))
            refine wpQuiet_nil ?_
            clear hf1 hfe0 hfe1 b0 b1
            go_wp2_with fail
            go_ret2
            exact ⟨by rw [HI.out, HT.out]; rfl, HB4.out⟩
        · have b0 : (p.fr == fr) = false := by rw [beq_eq_false_iff_ne]; exact k0
          have HT : Hid (TH = false) := Lib.hid (by rw [HTE2.out, decide_eq_false k0, Bool.false_and])
          clear k0
          refine wpGrow_nil ?_
          repeat (go_big_quiet_step (fail))
          refine wpQuiet_nil ?_
          clear hf1 hfe0 hfe1 b0
          go_wp2_with fail
          go_ret2
          exact ⟨by rw [HI.out, HT.out]; rfl, HB4.out⟩
    · have hlt2 : ¬ (j : Int) < (n : Int) := by omega
      have HI : Hid (idxE ⟨fr, tu, 0⟩ G.es = j) := Lib.hid (HIE.out j hj HK.out fun h => absurd h hlt)
      have HT : Hid (TH = false) := Lib.hid (by rw [HTE.out, HI.out, decide_eq_false (by rw [HL1.out]; exact hlt), Bool.false_and])
      have HWX := HBR; have HXX := HXR
      go_wp2_with fail
      refine wp_region_grow (by kernel_rfl) Later Later.refl (fun _ _ _ => Later.trans) [0, 1, 2, 3, 4, 5, 6, 7, 8, 9, 10, 11, 12, 13, 14, 15, 16, 17, 18, 19, 20, 21, 22, 23, 24, 25, 26, 27] [] (by kernel_rfl) (by kernel_rfl) (by kernel_rfl) ?_
      simp only [List.map_cons, List.map_nil, pick, List.getD_cons_zero, List.getD_cons_succ]
      have HB4 : Hid (Below w.heap.size w wr.drew) := Lib.hid HWX.out.drew
      have HX4 : Hid (wr.drew.heap[w.heap.size]? = some (.cells #[.int .i64 G.sz, .slice A n c, .slice B m k] 31 (0, 0))) := Lib.hid HXX.out
      have HZ4 : Hid (w.heap.size < wr.drew.heap.size) := Lib.hid (Array.getElem?_eq_some_iff.1 HX4.out).1
      have H14 : Hid (ERow wr.drew A n c G.es) := Lib.hid (GRow.later H1.out (HB4.out.mono (Nat.le_refl _)))
      clear HWX HXX
      generalize wr.drew = z4 at *
      have hf1 : ∀ x, (fut Later z4 x).cell? ⟨w.heap.size, 1, none⟩ = some (.slice A n c) := fun x => (cell_of_row _ _ 1 _ _ _ (((fut_ok Later.refl z4 x).block _ HZ4.out).trans HX4.out)).trans rfl
      refine wpGrow_nil ?_
      repeat (go_big_quiet_step (fail))
      refine wpQuiet_nil ?_
      clear hf1
      go_wp2_with fail
      go_ret2
      exact ⟨by rw [HI.out, HT.out]; rfl, HB4.out⟩
end Go.Proofs.Ytdildmfjekdlgaa
