import Derived.Test.YtdildmfjekdlgaaPackAP
import Derived.Test.YtdildmfjekdlgaaPackAB
import Derived.Lib.Bytealg
import Derived.Lib.Small
import Derived.Test.YtdildmfjekdlgaaGWithP
import Derived.Shelf.Abstract
/- Distances: a search in breadth that queues keys ascending gives distances, and the keys before make the least ways. Plain facts. -/
namespace Go.Proofs.Ytdildmfjekdlgaa
open Go.RowKit
/-- A queued key: the place in the queue of the key before it, plus one (0: a seed); the key. -/
structure Qd where
  b : Nat
  k : Int
def noQd : Qd := ⟨0, 0⟩
def qk (T : List Qd) (x : Nat) : Int := (T.getD x noQd).k
def qb (T : List Qd) (x : Nat) : Nat := (T.getD x noQd).b
def bfAt (l : List Int) (k : Int) : Int := l.getD k.toNat 0
theorem qk_lo {T : List Qd} (p : Qd) {x : Nat} (h : x < T.length) : qk (T ++ [p]) x = qk T x := by
  unfold qk; rw [List.getD_eq_getElem?_getD, List.getElem?_append_left h, ← List.getD_eq_getElem?_getD]
theorem qb_lo {T : List Qd} (p : Qd) {x : Nat} (h : x < T.length) : qb (T ++ [p]) x = qb T x := by
  unfold qb; rw [List.getD_eq_getElem?_getD, List.getElem?_append_left h, ← List.getD_eq_getElem?_getD]
theorem qk_hi (T : List Qd) (p : Qd) : qk (T ++ [p]) T.length = p.k := by
  unfold qk; rw [List.getD_eq_getElem?_getD, List.getElem?_append_right (Nat.le_refl _), Nat.sub_self]; rfl
theorem qb_hi (T : List Qd) (p : Qd) : qb (T ++ [p]) T.length = p.b := by
  unfold qb; rw [List.getD_eq_getElem?_getD, List.getElem?_append_right (Nat.le_refl _), Nat.sub_self]; rfl
theorem bfAt_set {d : List Int} {t : Int} (ht : t.toNat < d.length) (v k : Int) : bfAt (d.set t.toNat v) k = if t.toNat = k.toNat then v else bfAt d k := by
  unfold bfAt
  rw [List.getD_eq_getElem?_getD, List.getElem?_set, List.getD_eq_getElem?_getD]
  split
  · first | (rw [if_pos ht]; rfl) | rfl
  · rfl
/-- Where the search stands: h keys are done, of the next one the neighbours p. -/
structure Srch (z : Nat) (es : List Edg) (sd : Int → Bool) (h : Nat) (p : List Int) (T : List Qd) (d bf : List Int) : Prop where
  len : d.length = z
  blen : bf.length = z
  hle : h ≤ T.length
  inz : ∀ x, x < T.length → 0 ≤ qk T x ∧ qk T x < z
  seen : ∀ k : Int, 0 ≤ k → k < z → 0 ≤ dAt d k → ∃ x, x < T.length ∧ qk T x = k
  nn : ∀ x, x < T.length → 0 ≤ dAt d (qk T x)
  low : ∀ k : Int, 0 ≤ k → k < z → -1 ≤ dAt d k
  asc : ∀ x y, x < y → y < T.length → qb T x < qb T y ∨ (qb T x = qb T y ∧ qk T x < qk T y)
  one : ∀ x y, x < T.length → y < T.length → qk T x = qk T y → x = y
  seed : ∀ x, x < T.length → qb T x = 0 → sd (qk T x) = true ∧ dAt d (qk T x) = 0
  seeds : ∀ k : Int, 0 ≤ k → k < z → sd k = true → ∃ x, x < T.length ∧ qb T x = 0 ∧ qk T x = k
  prev : ∀ x, x < T.length → ∀ i, qb T x = i + 1 → i < x ∧ i ≤ h ∧ (i = h → qk T x ∈ p) ∧ (∃ e ∈ es, e.fr = qk T i ∧ e.tu = qk T x) ∧ dAt d (qk T x) = dAt d (qk T i) + 1 ∧ bfAt bf (qk T x) = qk T i ∧ ∀ i', i' < i → ∀ e ∈ es, e.fr = qk T i' → e.tu ≠ qk T x
  done : ∀ x, x < h → ∀ e ∈ es, e.fr = qk T x → ∃ y, y < T.length ∧ qk T y = e.tu
  part : ∀ k ∈ p, ∃ y, y < T.length ∧ qk T y = k
section
variable {z : Nat} {es : List Edg} {sd : Int → Bool} {h : Nat} {p : List Int} {T : List Qd} {d bf : List Int}
/-- A neighbour that is there already. -/
theorem Srch.old (S : Srch z es sd h p T d bf) {k : Int} (k0 : 0 ≤ k) (k1 : k < z) (hk : 0 ≤ dAt d k) : Srch z es sd h (p ++ [k]) T d bf :=
  { S with
    prev := fun x hx i hi => by
      obtain ⟨a, b, c, r⟩ := S.prev x hx i hi
      exact ⟨a, b, fun q => List.mem_append_left _ (c q), r⟩
    part := fun j hj => by
      rcases List.mem_append.1 hj with hj | hj
      · exact S.part j hj
      · rw [List.mem_singleton.1 hj]; exact S.seen k k0 k1 hk }
/-- A neighbour that is new. -/
theorem Srch.new (S : Srch z es sd h p T d bf) (hh : h < T.length) {k : Int} (k0 : 0 ≤ k) (k1 : k < z) (hk : dAt d k = -1) (he : ∃ e ∈ es, e.fr = qk T h ∧ e.tu = k) (hp : ∀ j ∈ p, j < k) :
    Srch z es sd h (p ++ [k]) (T ++ [⟨h + 1, k⟩]) (d.set k.toNat (dAt d (qk T h) + 1)) (bf.set k.toNat (qk T h)) := by
  have hl : k.toNat < d.length := by rw [S.len]; omega
  have hl2 : k.toNat < bf.length := by rw [S.blen]; omega
  have hno : ∀ x, x < T.length → qk T x ≠ k := fun x hx q => by have := S.nn x hx; rw [q] at this; omega
  have hd : ∀ j : Int, 0 ≤ j → j ≠ k → dAt (d.set k.toNat (dAt d (qk T h) + 1)) j = dAt d j := fun j j0 hj => by rw [dAt_set hl, if_neg (by omega)]
  have hdk : dAt (d.set k.toNat (dAt d (qk T h) + 1)) k = dAt d (qk T h) + 1 := by rw [dAt_set hl, if_pos rfl]
  have hb : ∀ j : Int, 0 ≤ j → j ≠ k → bfAt (bf.set k.toNat (qk T h)) j = bfAt bf j := fun j j0 hj => by rw [bfAt_set hl2, if_neg (by omega)]
  have hbk : bfAt (bf.set k.toNat (qk T h)) k = qk T h := by rw [bfAt_set hl2, if_pos rfl]
  have hT : (T ++ [(⟨h + 1, k⟩ : Qd)]).length = T.length + 1 := by rw [List.length_append]; rfl
  have klo : ∀ x, x < T.length → qk (T ++ [⟨h + 1, k⟩]) x = qk T x := fun x hx => qk_lo _ hx
  have blo : ∀ x, x < T.length → qb (T ++ [⟨h + 1, k⟩]) x = qb T x := fun x hx => qb_lo _ hx
  have khi : qk (T ++ [⟨h + 1, k⟩]) T.length = k := qk_hi T ⟨h + 1, k⟩
  have bhi : qb (T ++ [⟨h + 1, k⟩]) T.length = h + 1 := qb_hi T ⟨h + 1, k⟩
  have h0 := S.nn h hh
  refine ⟨by rw [List.length_set]; exact S.len, by rw [List.length_set]; exact S.blen, by rw [hT]; exact Nat.le_succ_of_le S.hle, ?_, ?_, ?_, ?_, ?_, ?_, ?_, ?_, ?_, ?_, ?_⟩
  · intro x hx
    rcases Nat.lt_or_ge x T.length with g | g
    · rw [klo x g]; exact S.inz x g
    · rw [show x = T.length by omega, khi]; exact ⟨k0, k1⟩
  · intro j j0 j1 hj
    by_cases q : j = k
    · exact ⟨T.length, by omega, by rw [khi, q]⟩
    · rw [hd j j0 q] at hj
      obtain ⟨x, hx, e⟩ := S.seen j j0 j1 hj
      exact ⟨x, by omega, by rw [klo x hx]; exact e⟩
  · intro x hx
    rcases Nat.lt_or_ge x T.length with g | g
    · rw [klo x g, hd _ (S.inz x g).1 (hno x g)]; exact S.nn x g
    · rw [show x = T.length by omega, khi, hdk]; omega
  · intro j j0 j1
    by_cases q : j = k
    · rw [q, hdk]; omega
    · rw [hd j j0 q]; exact S.low j j0 j1
  · intro x y hxy hy
    rcases Nat.lt_or_ge y T.length with g | g
    · rw [klo y g, blo y g, klo x (by omega), blo x (by omega)]; exact S.asc x y hxy g
    · have hxl : x < T.length := by omega
      rw [show y = T.length by omega, khi, bhi, klo x hxl, blo x hxl]
      rcases Nat.eq_zero_or_pos (qb T x) with q | q
      · left; omega
      · obtain ⟨a, b, c, -⟩ := S.prev x hxl (qb T x - 1) (by omega)
        by_cases q2 : qb T x - 1 = h
        · exact .inr ⟨by omega, hp _ (c q2)⟩
        · left; omega
  · intro x y hx hy hxy
    rcases Nat.lt_or_ge x T.length with g | g <;> rcases Nat.lt_or_ge y T.length with g2 | g2
    · rw [klo x g, klo y g2] at hxy; exact S.one x y g g2 hxy
    · rw [klo x g, show y = T.length by omega, khi] at hxy; exact absurd hxy (hno x g)
    · rw [klo y g2, show x = T.length by omega, khi] at hxy; exact absurd hxy.symm (hno y g2)
    · omega
  · intro x hx q
    rcases Nat.lt_or_ge x T.length with g | g
    · rw [blo x g] at q
      rw [klo x g, hd _ (S.inz x g).1 (hno x g)]; exact S.seed x g q
    · rw [show x = T.length by omega, bhi] at q; omega
  · intro j j0 j1 hj
    obtain ⟨x, hx, a, b⟩ := S.seeds j j0 j1 hj
    exact ⟨x, by omega, by rw [blo x hx]; exact a, by rw [klo x hx]; exact b⟩
  · intro x hx i hi
    rcases Nat.lt_or_ge x T.length with g | g
    · rw [blo x g] at hi
      obtain ⟨a, b, c, e, f, g1, g2⟩ := S.prev x g i hi
      have hil : i < T.length := by omega
      rw [klo x g, klo i hil, hd _ (S.inz x g).1 (hno x g), hd _ (S.inz i hil).1 (hno i hil), hb _ (S.inz x g).1 (hno x g)]
      exact ⟨a, b, fun q => List.mem_append_left _ (c q), e, f, g1, fun i' hi' => by rw [klo i' (by omega)]; exact g2 i' hi'⟩
    · have hxe : x = T.length := by omega
      subst hxe
      rw [bhi] at hi
      have hie : i = h := by omega
      subst hie
      rw [khi, klo i hh, hdk, hd _ (S.inz i hh).1 (hno i hh), hbk]
      exact ⟨hh, Nat.le_refl _, fun _ => List.mem_append_right _ (List.mem_singleton_self _), he, rfl, rfl, fun i' hi' e hm hf ht => by
        rw [klo i' (by omega)] at hf
        obtain ⟨y, hy, q⟩ := S.done i' hi' e hm hf
        exact hno y hy (q.trans ht)⟩
  · intro x hx e hm hf
    rw [klo x (by omega)] at hf
    obtain ⟨y, hy, q⟩ := S.done x hx e hm hf
    exact ⟨y, by omega, by rw [klo y hy]; exact q⟩
  · intro j hj
    rcases List.mem_append.1 hj with hj | hj
    · obtain ⟨y, hy, q⟩ := S.part j hj
      exact ⟨y, by omega, by rw [klo y hy]; exact q⟩
    · exact ⟨T.length, by omega, by rw [khi]; exact (List.mem_singleton.1 hj).symm⟩
/-- A key's neighbours are done. -/
theorem Srch.next (S : Srch z es sd h p T d bf) (hh : h < T.length) (hp : ∀ e ∈ es, e.fr = qk T h → e.tu ∈ p) : Srch z es sd (h + 1) [] T d bf :=
  { S with
    hle := hh
    prev := fun x hx i hi => by
      obtain ⟨a, b, c, r⟩ := S.prev x hx i hi
      exact ⟨a, by omega, fun q => by omega, r⟩
    done := fun x hx e hm hf => by
      rcases Nat.lt_or_ge x h with g | g
      · exact S.done x g e hm hf
      · rw [show x = h by omega] at hf
        exact S.part _ (hp e hm hf)
    part := fun k hk => nomatch hk }
/-- The start. -/
def seedsQ (l : List Int) : List Qd := l.map fun k => ⟨0, k⟩
theorem qk_seeds {l : List Int} {x : Nat} (hx : x < l.length) : qk (seedsQ l) x = l[x] := by
  unfold qk seedsQ
  rw [List.getD_eq_getElem?_getD, List.getElem?_map, List.getElem?_eq_getElem hx]; rfl
theorem qb_seeds (l : List Int) (x : Nat) : qb (seedsQ l) x = 0 := by
  unfold qb seedsQ
  rw [List.getD_eq_getElem?_getD, List.getElem?_map]
  cases l[x]? <;> rfl
theorem Srch.start {l : List Int} (hl : l.Pairwise (· < ·)) (hm : ∀ k, k ∈ l ↔ 0 ≤ k ∧ k < z ∧ sd k = true) (hd : d.length = z) (hb : bf.length = z) (hv : ∀ k : Int, 0 ≤ k → k < z → dAt d k = if sd k then 0 else -1) : Srch z es sd 0 [] (seedsQ l) d bf := by
  have hlen : (seedsQ l).length = l.length := by unfold seedsQ; rw [List.length_map]
  have hk : ∀ x (hx : x < (seedsQ l).length), qk (seedsQ l) x = l[x]'(by rw [← hlen]; exact hx) := fun x hx => qk_seeds (by rw [← hlen]; exact hx)
  have hmem : ∀ x, x < (seedsQ l).length → 0 ≤ qk (seedsQ l) x ∧ qk (seedsQ l) x < z ∧ sd (qk (seedsQ l) x) = true := fun x hx => by
    rw [hk x hx]; exact (hm _).1 (List.getElem_mem _)
  have hin : ∀ k : Int, 0 ≤ k → k < z → sd k = true → ∃ x, x < (seedsQ l).length ∧ qk (seedsQ l) x = k := fun k k0 k1 hs => by
    obtain ⟨x, hx, e⟩ := List.getElem_of_mem ((hm k).2 ⟨k0, k1, hs⟩)
    exact ⟨x, by rw [hlen]; exact hx, by rw [hk x (by rw [hlen]; exact hx)]; exact e⟩
  have hasc : ∀ x y, x < y → y < (seedsQ l).length → qk (seedsQ l) x < qk (seedsQ l) y := fun x y hxy hy => by
    rw [hk x (by omega), hk y hy]
    exact List.pairwise_iff_getElem.1 hl x y (by omega) (by omega) hxy
  refine ⟨hd, hb, Nat.zero_le _, fun x hx => ⟨(hmem x hx).1, (hmem x hx).2.1⟩, fun k k0 k1 hk => ?_, fun x hx => ?_, fun k k0 k1 => ?_, fun x y hxy hy => .inr ⟨by rw [qb_seeds, qb_seeds], hasc x y hxy hy⟩, fun x y hx hy e => ?_, fun x hx _ => ?_, fun k k0 k1 hs => ?_, fun x hx i hi => ?_, fun x hx => absurd hx (Nat.not_lt_zero _), fun k hk => nomatch hk⟩
  · rw [hv k k0 k1] at hk
    split at hk
    · rename_i hs; exact hin k k0 k1 hs
    · omega
  · have := hmem x hx
    rw [hv _ this.1 this.2.1, if_pos this.2.2]; exact Int.le_refl _
  · rw [hv k k0 k1]; split <;> omega
  · rcases Nat.lt_trichotomy x y with q | q | q
    · have := hasc x y q hy; omega
    · exact q
    · have := hasc y x q hx; omega
  · have := hmem x hx
    exact ⟨this.2.2, by rw [hv _ this.1 this.2.1, if_pos this.2.2]⟩
  · obtain ⟨x, hx, e⟩ := hin k k0 k1 hs
    exact ⟨x, hx, qb_seeds _ _, e⟩
  · rw [qb_seeds] at hi; omega
theorem Srch.ble (S : Srch z es sd h p T d bf) {x y : Nat} (hxy : x ≤ y) (hy : y < T.length) : qb T x ≤ qb T y := by
  rcases Nat.eq_or_lt_of_le hxy with q | q
  · rw [q]; exact Nat.le_refl _
  · rcases S.asc x y q hy with a | a <;> omega
theorem Srch.mono (S : Srch z es sd h p T d bf) : ∀ (y x : Nat), x ≤ y → y < T.length → dAt d (qk T x) ≤ dAt d (qk T y) := by
  intro y
  induction y using Nat.strongRecOn with
  | _ y ih =>
    intro x hxy hy
    have hb := S.ble hxy hy
    have hx : x < T.length := by omega
    rcases Nat.eq_zero_or_pos (qb T x) with q | q
    · rw [(S.seed x hx q).2]; exact S.nn y hy
    · obtain ⟨a, -, -, -, e, -⟩ := S.prev x hx (qb T x - 1) (by omega)
      obtain ⟨a2, -, -, -, e2, -⟩ := S.prev y hy (qb T y - 1) (by omega)
      have := ih (qb T y - 1) a2 (qb T x - 1) (by omega) (by omega)
      omega
theorem Srch.few (S : Srch z es sd h p T d bf) : T.length ≤ z := by
  have h1 := nodup_below z (T.map fun q => q.k.toNat) (by
    rw [List.nodup_iff_pairwise_ne, List.pairwise_map, List.pairwise_iff_getElem]
    intro i j hi hj hij e
    have h1 := S.inz i hi
    have h2 := S.inz j hj
    have e1 : qk T i = T[i].k := by unfold qk; rw [List.getD_eq_getElem?_getD, List.getElem?_eq_getElem hi]; rfl
    have e2 : qk T j = T[j].k := by unfold qk; rw [List.getD_eq_getElem?_getD, List.getElem?_eq_getElem hj]; rfl
    have := S.one i j hi hj (by rw [e1] at h1 ⊢; rw [e2] at h2 ⊢; omega)
    omega) fun x hx => by
      obtain ⟨q, hq, rfl⟩ := List.mem_map.1 hx
      obtain ⟨i, hi, rfl⟩ := List.getElem_of_mem hq
      have h1 := S.inz i hi
      have e1 : qk T i = T[i].k := by unfold qk; rw [List.getD_eq_getElem?_getD, List.getElem?_eq_getElem hi]; rfl
      rw [e1] at h1
      omega
  rwa [List.length_map] at h1
/-- The end: distances. -/
theorem Srch.dist (S : Srch z es sd h p T d bf) (hh : h = T.length) : IsDist z es sd d := by
  refine ⟨S.len, fun k k0 k1 => ⟨fun hk => ?_, fun hs => ?_⟩, S.low, fun k k0 k1 n hk => ?_, fun e he f0 f1 t0 t1 hd => ?_⟩
  · obtain ⟨x, hx, e⟩ := S.seen k k0 k1 (by omega)
    rcases Nat.eq_zero_or_pos (qb T x) with q | q
    · rw [← e]; exact (S.seed x hx q).1
    · obtain ⟨a, -, -, -, r, -⟩ := S.prev x hx (qb T x - 1) (by omega)
      have := S.nn (qb T x - 1) (by omega)
      rw [e] at r
      omega
  · obtain ⟨x, hx, q, e⟩ := S.seeds k k0 k1 hs
    rw [← e]; exact (S.seed x hx q).2
  · obtain ⟨x, hx, e⟩ := S.seen k k0 k1 (by omega)
    rcases Nat.eq_zero_or_pos (qb T x) with q | q
    · have := (S.seed x hx q).2
      rw [e] at this; omega
    · obtain ⟨a, -, -, ⟨g, hg, g1, g2⟩, r, -⟩ := S.prev x hx (qb T x - 1) (by omega)
      have hi := S.inz (qb T x - 1) (by omega)
      rw [e] at r g2
      exact ⟨g, hg, g2, by rw [g1]; exact hi.1, by rw [g1]; exact hi.2, by rw [g1]; omega⟩
  · obtain ⟨x, hx, e1⟩ := S.seen e.fr f0 f1 hd
    obtain ⟨y, hy, e2⟩ := S.done x (by omega) e he e1.symm
    rw [← e2]
    refine ⟨S.nn y hy, ?_⟩
    rcases Nat.eq_zero_or_pos (qb T y) with q | q
    · rw [(S.seed y hy q).2]; omega
    · obtain ⟨a, -, -, -, r, -, m⟩ := S.prev y hy (qb T y - 1) (by omega)
      have hle : qb T y - 1 ≤ x := by
        rcases Nat.lt_or_ge x (qb T y - 1) with g | g
        · exact absurd e2.symm (m x g e he e1.symm)
        · exact g
      have := S.mono x (qb T y - 1) hle hx
      rw [e1] at this
      omega
end
/-- The keys of the way, from the end. -/
def bk (bf : List Int) (key : Int) : Nat → Int
  | 0 => key
  | m + 1 => bfAt bf (bk bf key m)
section
variable {z : Nat} {es : List Edg} {sd : Int → Bool} {h : Nat} {p : List Int} {T : List Qd} {d bf : List Int} {key : Int} {n : Nat}
theorem Srch.back (S : Srch z es sd h p T d bf) (hk0 : 0 ≤ key) (hk1 : key < z) (hn : dAt d key = (n : Int)) : ∀ m, m ≤ n → (∃ x, x < T.length ∧ qk T x = bk bf key m) ∧ dAt d (bk bf key m) = ((n - m : Nat) : Int) ∧ Rch d es key (bk bf key m) ∧ (m < n → ∃ e ∈ es, e.fr = bk bf key (m + 1) ∧ e.tu = bk bf key m)
  | 0, _ => by
    obtain ⟨x, hx, e⟩ := S.seen key hk0 hk1 (by omega)
    refine ⟨⟨x, hx, e⟩, hn, .here, fun hlt => ?_⟩
    rcases Nat.eq_zero_or_pos (qb T x) with q | q
    · have := (S.seed x hx q).2
      rw [e] at this; omega
    · obtain ⟨a, -, -, ⟨g, hg, g1, g2⟩, r, b, -⟩ := S.prev x hx (qb T x - 1) (by omega)
      rw [e] at g2 b
      exact ⟨g, hg, by rw [g1]; exact b.symm, g2⟩
  | m + 1, hm => by
    obtain ⟨⟨x, hx, e⟩, hd, hr, -⟩ := Srch.back S hk0 hk1 hn m (by omega)
    rcases Nat.eq_zero_or_pos (qb T x) with q | q
    · have := (S.seed x hx q).2
      rw [e] at this; omega
    · obtain ⟨a, -, -, ⟨g, hg, g1, g2⟩, r, b, -⟩ := S.prev x hx (qb T x - 1) (by omega)
      have hi : qb T x - 1 < T.length := by omega
      have hbk : bk bf key (m + 1) = qk T (qb T x - 1) := by
        show bfAt bf (bk bf key m) = _
        rw [← e]; exact b
      rw [e, hd] at r
      have hd2 : dAt d (bk bf key (m + 1)) = ((n - (m + 1) : Nat) : Int) := by rw [hbk]; omega
      refine ⟨⟨_, hi, hbk.symm⟩, hd2, ?_, fun hlt => ?_⟩
      · have h1 := Rch.back hg (by rw [g2, e]; exact hr) (by rw [g1, g2, e]; omega) (by rw [g1]; omega)
        rw [g1, ← hbk] at h1
        exact h1
      · rcases Nat.eq_zero_or_pos (qb T (qb T x - 1)) with q2 | q2
        · have := (S.seed _ hi q2).2
          rw [← hbk] at this; omega
        · obtain ⟨a', -, -, ⟨g', hg', g1', g2'⟩, r', b', -⟩ := S.prev _ hi (qb T (qb T x - 1) - 1) (by omega)
          rw [← hbk] at g2' b'
          exact ⟨g', hg', by rw [g1']; exact b'.symm, g2'⟩
/-- Of the keys of one distance on shortest ways the way's stands first in the queue. -/
theorem Srch.first (S : Srch z es sd h p T d bf) (hz : ∀ e ∈ es, InZ z e) (hk0 : 0 ≤ key) (hk1 : key < z) (hn : dAt d key = (n : Int)) : ∀ m, m ≤ n → ∀ x y, x < T.length → y < T.length → qk T x = bk bf key m → Rch d es key (qk T y) → dAt d (qk T y) = ((n - m : Nat) : Int) → x ≤ y
  | 0, _, x, y, hx, hy, e, hr, hd => by
    have h1 := hr.le.2 (by rw [hd, hn, Nat.sub_zero])
    have := S.one x y hx hy (e.trans (h1.symm : key = qk T y))
    omega
  | m + 1, hm, x, y, hx, hy, e, hr, hd => by
    obtain ⟨⟨X, hX, eX⟩, hdX, hrX, -⟩ := S.back hk0 hk1 hn m (by omega)
    obtain ⟨g, hg, g1, g2, g3⟩ := hr.step (by omega)
    obtain ⟨-, -, t0, t1⟩ := hz g hg
    obtain ⟨Y, hY, eY⟩ := S.seen g.tu t0 t1 (by omega)
    have ih := Srch.first S hz hk0 hk1 hn m (by omega) X Y hX hY eX (by rw [eY]; exact g2) (by rw [eY]; omega)
    have hb := S.ble ih hY
    rcases Nat.eq_zero_or_pos (qb T X) with q | q
    · have := (S.seed X hX q).2
      rw [eX] at this; omega
    · obtain ⟨a, -, -, -, -, b, -⟩ := S.prev X hX (qb T X - 1) (by omega)
      obtain ⟨a2, -, -, -, -, -, m2⟩ := S.prev Y hY (qb T Y - 1) (by omega)
      have hxe : x = qb T X - 1 := S.one _ _ hx (by omega) (by rw [e, ← b, eX]; rfl)
      have hle : qb T Y - 1 ≤ y := by
        rcases Nat.lt_or_ge y (qb T Y - 1) with k | k
        · exact absurd eY.symm (m2 y k g hg g1)
        · exact k
      omega
theorem wayB_at {m i : Nat} (hi : i < m) : (((List.range m).map fun i => bk bf key (n - i)).getD i 0) = bk bf key (n - i) := by
  rw [List.getD_eq_getElem?_getD, List.getElem?_map, List.getElem?_range hi]; rfl
/-- The way by the keys before is the one that the reference picks. -/
theorem Srch.way (S : Srch z es sd h p T d bf) (hz : ∀ e ∈ es, InZ z e) (hk0 : 0 ≤ key) (hk1 : key < z) (hn : dAt d key = (n : Int)) : ∀ m, m ≤ n + 1 → wayUp d es (marked d es z key) z m = (List.range m).map fun i => bk bf key (n - i)
  | 0, _ => rfl
  | m + 1, hm => by
    have ih := Srch.way S hz hk0 hk1 hn m (by omega)
    obtain ⟨-, m1, m2⟩ := marked_iff hz hk0 hk1 (by omega : 0 ≤ dAt d key)
    obtain ⟨r, hrm⟩ : ∃ r, r = n - m := ⟨_, rfl⟩
    have er : n - r = m := by omega
    have er2 : 0 < m → n - (m - 1) = r + 1 := fun h0 => by omega
    have hrn : r ≤ n := by omega
    have hB := S.back hk0 hk1 hn r hrn
    rw [er] at hB
    obtain ⟨⟨x, hx, e⟩, hd, hr, hprev'⟩ := hB
    have hin := S.inz x hx
    rw [e] at hin
    have hprev : 0 < m → ∃ g ∈ es, g.fr = bk bf key (r + 1) ∧ g.tu = bk bf key r := fun h0 => hprev' (by omega)
    have hlast : 0 < m → ((List.range m).map fun i => bk bf key (n - i)).getD (m - 1) 0 = bk bf key (r + 1) := fun h0 => by
      rw [wayB_at (Nat.sub_lt h0 Nat.one_pos), er2 h0]
    have hF := S.first hz hk0 hk1 hn r hrn x
    rw [er] at hF
    clear er
    have hfit : fitsD d es (marked d es z key) (wayUp d es (marked d es z key) z m) m (bk bf key r).toNat = true := by
      refine fits_iff.2 ?_
      rw [show (((bk bf key r).toNat : Nat) : Int) = bk bf key r by omega]
      refine ⟨m2 _ hr (by rw [hd]; exact Int.natCast_nonneg _), hd, fun h0 => ?_⟩
      rw [ih, hlast h0]
      obtain ⟨g, hg, g1, g2⟩ := hprev h0
      exact (hasI_iff _ _).2 (outS_mem.2 ⟨g, hg, g1, g2⟩)
    obtain ⟨q, hq, hp, hfq, hmin⟩ := pick_some hin.1 hin.2 hfit
    have hle : q ≤ (bk bf key r).toNat := by
      rcases Nat.lt_or_ge (bk bf key r).toNat q with k | k
      · rw [hmin _ k] at hfit; cases hfit
      · exact k
    obtain ⟨f1, f2, f3⟩ := fits_iff.1 hfq
    have hrq := m1 (q : Int) (Int.natCast_nonneg _) (Int.ofNat_lt.2 hq) f1
    obtain ⟨y, hy, ey⟩ := S.seen (q : Int) (Int.natCast_nonneg _) (Int.ofNat_lt.2 hq) (by rw [f2]; exact Int.natCast_nonneg _)
    have hxy := hF y hx hy e (by rw [ey]; exact hrq) (by rw [ey]; exact f2)
    have hge : bk bf key r ≤ (q : Int) := by
      rw [← e, ← ey]
      rcases Nat.eq_or_lt_of_le hxy with k | k
      · rw [k]; exact Int.le_refl _
      · rcases S.asc x y k hy with k2 | k2
        · exfalso
          rcases Nat.eq_zero_or_pos m with h0 | h0
          · obtain ⟨j, hj⟩ : ∃ j, qb T y = j + 1 := ⟨qb T y - 1, by omega⟩
            obtain ⟨a, -, -, -, rr, -⟩ := S.prev y hy j hj
            have := S.nn j (Nat.lt_trans a hy)
            rw [ey, f2, h0] at rr
            omega
          · have f4 := outS_mem.1 ((hasI_iff _ _).1 (f3 h0))
            rw [ih, hlast h0] at f4
            obtain ⟨g, hg, g1, g2⟩ := f4
            rcases Nat.eq_zero_or_pos (qb T x) with q2 | q2
            · have := (S.seed x hx q2).2
              rw [e, hd] at this
              omega
            · obtain ⟨i, hi⟩ : ∃ i, qb T x = i + 1 := ⟨qb T x - 1, by omega⟩
              obtain ⟨j, hj⟩ : ∃ j, qb T y = j + 1 := ⟨qb T y - 1, by omega⟩
              obtain ⟨a, -, -, -, -, b, -⟩ := S.prev x hx i hi
              obtain ⟨a3, -, -, -, -, -, m3⟩ := S.prev y hy j hj
              refine m3 i (by omega) g hg ?_ (by rw [g2, ey])
              rw [g1, ← b, e]; rfl
        · exact Int.le_of_lt k2.2
    unfold wayUp
    rw [hp, ih, List.range_succ, List.map_append]
    have : (q : Int) = bk bf key r := by omega
    rw [this, hrm]; rfl
end
end Go.Proofs.Ytdildmfjekdlgaa
/- The walks of cmp.Or, cmp.Compare, strings.Compare. -/
namespace Go.Proofs.Ytdildmfjekdlgaa
open Go.RowKit
/-- The first number that is not zero. -/
def firstNZ : List Int → Int
  | [] => 0
  | x :: l => if x = 0 then firstNZ l else x
theorem firstNZ_drop (l : List Int) (j : Nat) (h : ∀ i, i < j → l.getD i 0 = 0) (hj : j ≤ l.length) : firstNZ l = firstNZ (l.drop j) := by
  induction j with
  | zero => rfl
  | succ j ih =>
    rw [ih (fun i hi => h i (by omega)) (by omega), List.drop_eq_getElem_cons (show j < l.length by omega)]
    have h0 := h j (by omega)
    rw [List.getD_eq_getElem?_getD, List.getElem?_eq_getElem (by omega)] at h0
    exact if_pos h0
set_option maxRecDepth 100000 in
set_option maxHeartbeats 1000000 in
theorem or_any (A : Option Addr) (n c : Nat) (l : List Int) (w : World) (hl : IRow w A n c l) (hn : n ≤ 1000000) :
    Calls Try.prog 61 #[.slice A n c] w fun e w' => e = .returned (.int .i64 (firstNZ l)) ∧ w' = w := by
  have HL := Lib.hid hl; have HLN := Lib.hid hl.len
  clear hl
  go_enter Try.func61, Try.ntmps61
  go_wp2
  go_loopw [8] (fun i wr => ∃ j : Nat, j ≤ n ∧ i = .int .i64 j ∧ wr = w ∧ Hid (∀ i, i < j → l.getD i 0 = 0)) (fun i _ => n - (intOf i).toNat)
  case atStart => exact ⟨0, Nat.zero_le _, rfl, rfl, Lib.hid fun _ h => absurd h (Nat.not_lt_zero _)⟩
  case round =>
    obtain ⟨j, hj, rfl, rfl, HQ⟩ := hrel
    by_cases hlt : j < n
    · obtain ⟨ab, off, hA, hc0⟩ := HL.out.cell j hlt
      subst hA
      by_cases hz : l.getD j 0 = 0
      · rw [hz] at hc0
        have HZ := Lib.hid hz; clear hz
        go_wp2
        refine ⟨⟨j + 1, hlt, by go_num, by simp, Lib.hid fun i hi => ?_⟩, by simp [intOf]; omega⟩
        by_cases h : i = j
        · rw [h]; exact HZ.out
        · exact HQ.out i (by omega)
      · have HZ : Hid (firstNZ l = l.getD j 0) := Lib.hid (by
          rw [firstNZ_drop l j HQ.out (by have := HLN.out; omega), List.drop_eq_getElem_cons (show j < l.length by have := HLN.out; omega)]
          have e : l.getD j 0 = l[j]'(by have := HLN.out; omega) := by rw [List.getD_eq_getElem?_getD, List.getElem?_eq_getElem (by have := HLN.out; omega)]; rfl
          rw [e] at hz ⊢
          show (if l[j]'_ = 0 then _ else _) = _
          rw [if_neg hz])
        generalize l.getD j 0 = x at hc0 HZ hz
        have hx : (x != 0) = true := by simpa using hz
        clear hz
        go_wp2
        go_ret
        exact ⟨by rw [HZ.out]; rfl, rfl⟩
    · have HE : Hid (j = n) := by unfold Hid; omega
      go_wp2
      go_ret
      refine ⟨?_, rfl⟩
      rw [firstNZ_drop l j HQ.out (by have := HLN.out; omega), List.drop_eq_nil_of_le (by have := HLN.out; have := HE.out; omega)]
      rfl
set_option maxHeartbeats 1000000 in
theorem cmpInt_any (x y : Int) (w : World) :
    Calls Try.prog 62 #[.int .i64 x, .int .i64 y] w fun e w' => e = .returned (.int .i64 (Lib.compareInt x y)) ∧ w' = w := by
  go_enter Try.func62, Try.ntmps62
  go_wp2
  all_goals (go_ret; refine ⟨?_, rfl⟩; unfold Lib.compareInt; (repeat' split) <;> first | rfl | (exfalso; omega))
end Go.Proofs.Ytdildmfjekdlgaa
/- The walk of store's compare. -/
namespace Go.Proofs.Ytdildmfjekdlgaa
open Go.RowKit
/-- Blocks and draws may have come; nothing has turned. -/
def Laid (a b : World) : Prop := Below a.heap.size a b ∧ a.drawn ≤ b.drawn
theorem Laid.refl (a : World) : Laid a a := ⟨Below.refl _ _, Nat.le_refl _⟩
theorem Laid.trans {a b c : World} (h : Laid a b) (k : Laid b c) : Laid a c := ⟨h.1.trans (k.1.mono h.1.size), Nat.le_trans h.2 k.2⟩
theorem Laid.alloc (a : World) (o : Obj) : Laid a (a.alloc o) := ⟨one_new a o, Nat.le_refl _⟩
theorem Laid.drew (a : World) : Laid a a.drew := ⟨(Below.refl _ _).drew, Nat.le_succ _⟩
end Go.Proofs.Ytdildmfjekdlgaa
/- The walk of graph's compare, and its order. -/
namespace Go.Proofs.Ytdildmfjekdlgaa
open Go.RowKit
/-- The order of edges as the program reckons it. -/
def cmpEd (a b : Edg) : Int := firstNZ [Lib.compareInt a.fr b.fr, Lib.compareInt a.tu b.tu]
theorem cmpI_three (x y : Int) : (x < y ∧ Lib.compareInt x y = -1) ∨ (x = y ∧ Lib.compareInt x y = 0) ∨ (y < x ∧ Lib.compareInt x y = 1) := by
  unfold Lib.compareInt
  (repeat' split) <;> omega
theorem cmpEd_iff (a b : Edg) : cmpEd a b < 0 ↔ befE a b = true := by
  rw [befE_iff]
  unfold cmpEd firstNZ firstNZ firstNZ ltE
  rcases cmpI_three a.fr b.fr with ⟨h, e⟩ | ⟨h, e⟩ | ⟨h, e⟩
  · rw [e, if_neg (by decide)]; omega
  · rw [e, if_pos rfl]
    rcases cmpI_three a.tu b.tu with ⟨k, f⟩ | ⟨k, f⟩ | ⟨k, f⟩
    · rw [f, if_neg (by decide)]; omega
    · rw [f, if_pos rfl]; omega
    · rw [f, if_neg (by decide)]; omega
  · rw [e, if_neg (by decide)]; omega
theorem edg_cells {w : World} {g : Nat} {p : Edg} {t : TypeId} {fr : Nat × Nat} (h : w.heap[g]? = some (.cells p.arr t fr)) :
    w.cell? ⟨g, 0, none⟩ = some (.int .i64 p.fr) ∧ w.cell? ⟨g, 1, none⟩ = some (.int .i64 p.tu) ∧ w.cell? ⟨g, 2, none⟩ = some (.int .i64 p.lv) :=
  ⟨(cell_of_row _ _ 0 _ _ _ h).trans rfl, (cell_of_row _ _ 1 _ _ _ h).trans rfl, (cell_of_row _ _ 2 _ _ _ h).trans rfl⟩
theorem edg_futs {F : World → World → Prop} (hr : ∀ w, F w w) {W : World} {g : Nat} {p : Edg} {t : TypeId} {fr : Nat × Nat} (hF : ∀ w', F W w' → w'.heap[g]? = W.heap[g]?) (h : W.heap[g]? = some (.cells p.arr t fr)) :
    (∀ x, (fut F W x).cell? ⟨g, 0, none⟩ = some (.int .i64 p.fr)) ∧ (∀ x, (fut F W x).cell? ⟨g, 1, none⟩ = some (.int .i64 p.tu)) ∧ (∀ x, (fut F W x).cell? ⟨g, 2, none⟩ = some (.int .i64 p.lv)) := by
  have h2 := fun x => edg_cells ((hF _ (fut_ok hr W x)).trans h)
  exact ⟨fun x => (h2 x).1, fun x => (h2 x).2.1, fun x => (h2 x).2.2⟩
set_option maxRecDepth 100000 in
set_option maxHeartbeats 1000000 in
theorem compareEd_any (p q : Edg) (w : World) : Calls Try.prog 52 #[.agg p.arr, .agg q.arr] w fun e w' => e = .returned (.int .i64 (cmpEd p q)) ∧ Laid w w' := by
  have HB : Hid (Laid w (((w.alloc (.cells p.arr 45)).alloc (.cells q.arr 45)).drew)) := Lib.hid (((Laid.alloc w _).trans (Laid.alloc _ _)).trans (Laid.drew _))
  have HX : Hid ((((w.alloc (.cells p.arr 45)).alloc (.cells q.arr 45)).drew).heap[w.heap.size]? = some (.cells p.arr 45 (0, 0))) := Lib.hid ((Below.heap_alloc _ _ _ (by simp)).trans (heap_alloc_new _ _))
  have HY : Hid ((((w.alloc (.cells p.arr 45)).alloc (.cells q.arr 45)).drew).heap[w.heap.size + 1]? = some (.cells q.arr 45 (0, 0))) := Lib.hid (heap_alloc2_new _ _ _)
  unfold cmpEd
  go_enter Try.func52, Try.ntmps52
  go_wp2_with fail
  refine wp_region_grow (by kernel_rfl) Laid Laid.refl (fun _ _ _ => Laid.trans) [12] [([0, 1, 2, 3, 5, 6, 7, 8], 4), ([], 9), ([], 10), ([], 11)] (by kernel_rfl) (by kernel_rfl) (by kernel_rfl) ?_
  simp only [List.map_cons, List.map_nil, pick, List.getD_cons_zero, List.getD_cons_succ]
  generalize (((w.alloc (.cells p.arr 45)).alloc (.cells q.arr 45)).drew) = w1 at HB HX HY ⊢
  have hlx : w.heap.size < w1.heap.size := (Array.getElem?_eq_some_iff.1 HX.out).1
  have hly : w.heap.size + 1 < w1.heap.size := (Array.getElem?_eq_some_iff.1 HY.out).1
  obtain ⟨hf0, hf1, hf2⟩ := edg_futs (F := Laid) Laid.refl (p := p) (W := w1) (fun w' h => h.1.block _ hlx) HX.out
  obtain ⟨hg0, hg1, hg2⟩ := edg_futs (F := Laid) Laid.refl (p := q) (W := w1) (fun w' h => h.1.block _ hly) HY.out
  obtain ⟨x0, x1, x2⟩ := p
  obtain ⟨y0, y1, y2⟩ := q
  simp only at hf0 hf1 hf2 hg0 hg1 hg2 ⊢
  refine wpGrow_cons ?_
  repeat (go_big_quiet_step (fail))
  refine wpQuiet_nil ?_
  clear hf0 hf1 hf2 hg0 hg1 hg2 HX HY hlx hly
  go_wp2_with fail
  refine (cmpInt_any _ _ _).mono ?_
  rintro e w2 ⟨rfl, rfl⟩
  go_wp2_with fail
  refine pieceEnd_normal ⟨Laid.refl _, ?_⟩
  refine wpGrow_cons ?_
  refine wpQuiet_nil ?_
  go_wp2_with fail
  refine (cmpInt_any _ _ _).mono ?_
  rintro e w4 ⟨rfl, rfl⟩
  go_wp2_with fail
  refine pieceEnd_normal ⟨Laid.refl _, ?_⟩
  generalize hr1 : Lib.compareInt x0 y0 = r1
  generalize hr2 : Lib.compareInt x1 y1 = r2
  have HR := Lib.hid (And.intro hr1 hr2); clear hr1 hr2
  refine wpGrow_cons ?_
  refine wpQuiet_nil ?_
  go_wp2_with fail
  refine pieceEnd_normal ⟨Laid.alloc _ _, ?_⟩
  have HI := Lib.hid (show IRow (w4.alloc (.cells #[.int .i64 r1, .int .i64 r2] 3)) (some ⟨w4.heap.size, 0, none⟩) 2 2 [r1, r2] from Row.of_block (heap_alloc_new _ _) rfl)
  have HB2 := Lib.hid (HB.out.trans (Laid.alloc w4 (.cells #[.int .i64 r1, .int .i64 r2] 3)))
  refine wpGrow_cons ?_
  refine wpQuiet_nil ?_
  go_wp2_with fail
  refine (or_any _ _ _ _ _ HI.out (by omega)).mono ?_
  rintro e w5 ⟨rfl, rfl⟩
  go_wp2_with fail
  refine pieceEnd_normal ⟨Laid.refl _, ?_⟩
  refine wpGrow_nil ?_
  repeat (go_big_quiet_step (fail))
  refine wpQuiet_nil ?_
  go_wp2_with fail
  go_ret
  exact ⟨by rw [HR.out.1, HR.out.2]; rfl, HB2.out⟩
end Go.Proofs.Ytdildmfjekdlgaa
/- The walks of slices.Index and Contains over numbers, and of the function literal that tells first places. -/
namespace Go.Proofs.Ytdildmfjekdlgaa
open Go.RowKit
/-- Where a number stands first in a list, counted from i; -1 if it is not there. -/
def idxI : List Int → Int → Nat → Int
  | [], _, _ => -1
  | a :: l, x, i => if x = a then (i : Int) else idxI l x (i + 1)
theorem idxI_has (x : Int) : ∀ (l : List Int) (i : Nat), decide (0 ≤ idxI l x i) = hasI l x
  | [], _ => rfl
  | a :: l, i => by
    unfold idxI hasI
    by_cases h : x = a
    · rw [if_pos h, if_pos h.symm]; exact decide_eq_true (Int.natCast_nonneg _)
    · rw [if_neg h, if_neg (fun q => h q.symm)]; exact idxI_has x l (i + 1)
set_option maxRecDepth 100000 in
set_option maxHeartbeats 4000000 in
theorem index_anyI (A : Option Addr) (n c : Nat) (l : List Int) (x : Int) (w : World) (hl : IRow w A n c l) (hn : n ≤ 100000) : Calls Try.prog 57 #[.slice A n c, .int .i64 x] w (SaysL (.int .i64 (idxI l x 0)) w) := by
  have HL := Lib.hid hl; have HLN : Hid (l.length = n) := Lib.hid hl.len
  clear hl
  go_enter Try.func57, Try.ntmps57
  go_wp2_with fail
  go_loopw [8] (fun i wr => ∃ j : Nat, j ≤ n ∧ i = .int .i64 j ∧ Hid (idxI (l.drop j) x j = idxI l x 0 ∧ Below w.heap.size w wr)) (fun i _ => n - (intOf i).toNat)
  case atStart => exact ⟨0, Nat.zero_le _, rfl, Lib.hid ⟨rfl, Below.refl _ _⟩⟩
  case round =>
    obtain ⟨j, hj, rfl, HQ⟩ := hrel
    by_cases hlt : j < n
    · have hlt2 : (j : Int) < (n : Int) := by omega
      obtain ⟨b, off, hA, hc⟩ := IRow.cell (HL.out.later HQ.out.2) j hlt
      subst hA
      have HD : Hid (idxI (l.drop j) x j = if x = l.getD j 0 then (j : Int) else idxI (l.drop (j + 1)) x (j + 1)) := Lib.hid (by
        rw [List.drop_eq_getElem_cons (by rw [HLN.out]; exact hlt), idxI, List.getD_eq_getElem?_getD, List.getElem?_eq_getElem (by rw [HLN.out]; exact hlt)]; rfl)
      generalize l.getD j 0 = a at *
      by_cases hax : x = a
      · have b0 : (x == a) = true := by rw [hax]; simp
        have HT : Hid (idxI l x 0 = (j : Int)) := Lib.hid (by rw [← HQ.out.1, HD.out, if_pos hax])
        clear hax
        go_wp2_with fail
        go_ret
        exact ⟨by rw [HT.out]; rfl, HQ.out.2⟩
      · have b0 : (x == a) = false := by rw [beq_eq_false_iff_ne]; exact hax
        have HT : Hid (idxI (l.drop (j + 1)) x (j + 1) = idxI l x 0) := Lib.hid (by rw [← HQ.out.1, HD.out, if_neg hax])
        clear hax
        go_wp2_with fail
        exact ⟨⟨j + 1, hlt, by go_num, Lib.hid ⟨HT.out, HQ.out.2⟩⟩, by simp [intOf]; omega⟩
    · have hlt2 : ¬ (j : Int) < (n : Int) := by omega
      have HT : Hid (idxI l x 0 = -1) := Lib.hid (by rw [← HQ.out.1, List.drop_eq_nil_of_le (by rw [HLN.out]; omega)]; rfl)
      go_wp2_with fail
      go_ret
      exact ⟨by rw [HT.out]; rfl, HQ.out.2⟩
set_option maxRecDepth 100000 in
set_option maxHeartbeats 4000000 in
theorem contains_anyI (A : Option Addr) (n c : Nat) (l : List Int) (x : Int) (w : World) (hl : IRow w A n c l) (hn : n ≤ 100000) : Calls Try.prog 38 #[.slice A n c, .int .i64 x] w (SaysL (.bool (hasI l x)) w) := by
  have HI := Lib.hid (index_anyI A n c l x w hl hn)
  have HV := Lib.hid (idxI_has x l 0)
  clear hl
  generalize idxI l x 0 = q at *
  generalize hasI l x = r at *
  go_enter Try.func38, Try.ntmps38
  go_wp2_with fail
  refine HI.out.mono ?_
  rintro e w1 ⟨rfl, hb⟩
  have HB := Lib.hid hb
  have hd : decide (0 ≤ q) = r := HV.out
  clear hb HI
  cases r
  · go_wp2_with fail
    go_ret
    exact ⟨rfl, HB.out⟩
  · go_wp2_with fail
    go_ret
    exact ⟨rfl, HB.out⟩
set_option maxRecDepth 100000 in
set_option maxHeartbeats 4000000 in
theorem first1_any (G : Gr) (A : Option Addr) (n c : Nat) (B : Option Addr) (m k : Nat) (A2 : Option Addr) (n2 c2 : Nat) (seeds : List Int) (x : Int) (g1 g2 : Nat) (w : World) (hg1 : w.heap[g1]? = some (.cells #[.int .i64 G.sz, .slice A n c, .slice B m k] 31)) (hg2 : w.heap[g2]? = some (.cells #[.slice A2 n2 c2] 22 (0, 0))) (hb : IRow w B m k G.gn) (hs : IRow w A2 n2 c2 seeds) (hm : m ≤ 100000) (hn : n2 ≤ 100000) :
    Calls Try.prog 68 #[.int .i64 x, .pointer (some ⟨g2, 0, none⟩), .pointer (some ⟨g1, 0, none⟩)] w (SaysL (.bool (seedB G.gn seeds x)) w) := by
  have HG := Lib.hid hg1
  have HC1 := Lib.hid (contains_anyI A2 n2 c2 seeds x w hs hn)
  have HC2 : Hid (∀ y, Below w.heap.size w y → Calls Try.prog 38 #[.slice B m k, .int .i64 x] y (SaysL (.bool (hasI G.gn x)) y)) := Lib.hid fun y hy => contains_anyI B m k G.gn x y (hb.later hy) hm
  have HV : Hid (seedB G.gn seeds x = (hasI seeds x && !hasI G.gn x)) := Lib.hid rfl
  have hc : w.cell? ⟨g2, 0, none⟩ = some (.slice A2 n2 c2) := (cell_of_row _ _ 0 _ _ _ hg2).trans rfl
  generalize seedB G.gn seeds x = r at *
  generalize hasI seeds x = a at *
  generalize hasI G.gn x = b at *
  clear hg1 hg2 hb hs
  go_enter Try.func68, Try.ntmps68
  go_wp2_with fail
  refine HC1.out.mono ?_
  rintro e w1 ⟨rfl, hb⟩
  have HB := Lib.hid hb
  have HG1 : Hid (w1.heap[g1]? = _) := Lib.hid ((hb.block _ (Array.getElem?_eq_some_iff.1 HG.out).1).trans HG.out)
  clear hb HC1 HG hc
  cases a
  · have HR : Hid (r = false) := Lib.hid (by rw [HV.out]; rfl)
    go_wp2_with fail
    go_ret
    exact ⟨by rw [HR.out]; rfl, HB.out⟩
  · have hc2 : w1.cell? ⟨g1, 2, none⟩ = some (.slice B m k) := (cell_of_row _ _ 2 _ _ _ HG1.out).trans rfl
    go_wp2_with fail
    refine (HC2.out w1 HB.out).mono ?_
    rintro e w2 ⟨rfl, hb⟩
    have HB2 := Lib.hid (HB.out.trans (hb.mono HB.out.size))
    clear hb HC2 hc2
    cases b
    · have HR : Hid (r = true) := Lib.hid (by rw [HV.out]; rfl)
      go_wp2_with fail
      go_ret
      exact ⟨by rw [HR.out]; rfl, HB2.out⟩
    · have HR : Hid (r = false) := Lib.hid (by rw [HV.out]; rfl)
      go_wp2_with fail
      go_ret
      exact ⟨by rw [HR.out]; rfl, HB2.out⟩
end Go.Proofs.Ytdildmfjekdlgaa
/- The walk of distance's first. -/
namespace Go.Proofs.Ytdildmfjekdlgaa
open Go.RowKit
/-- The first places, ascending. -/
def firstS (sd : Int → Bool) : Nat → List Int
  | 0 => []
  | n + 1 => firstS sd n ++ (if sd (n : Int) then [(n : Int)] else [])
theorem firstS_mem (sd : Int → Bool) (k : Int) : ∀ z : Nat, k ∈ firstS sd z ↔ 0 ≤ k ∧ k < z ∧ sd k = true
  | 0 => by simp [firstS]; intros; omega
  | z + 1 => by
    unfold firstS
    rw [List.mem_append, firstS_mem sd k z]
    constructor
    · rintro (h | h)
      · exact ⟨h.1, by omega, h.2.2⟩
      · split at h
        · rename_i hs
          rw [List.mem_singleton.1 h]
          exact ⟨by omega, by omega, hs⟩
        · exact nomatch h
    · rintro ⟨h0, h1, h2⟩
      by_cases hk : k = z
      · right
        rw [← hk, if_pos h2]
        exact List.mem_singleton_self _
      · exact .inl ⟨h0, by omega, h2⟩
theorem firstS_asc (sd : Int → Bool) : ∀ z : Nat, (firstS sd z).Pairwise (· < ·)
  | 0 => List.Pairwise.nil
  | z + 1 => by
    unfold firstS
    refine List.pairwise_append.2 ⟨firstS_asc sd z, by split <;> simp, fun a ha b hb => ?_⟩
    have h1 := (firstS_mem sd a z).1 ha
    split at hb
    · rw [List.mem_singleton.1 hb]; exact h1.2.1
    · exact nomatch hb
theorem firstS_len (sd : Int → Bool) : ∀ z : Nat, (firstS sd z).length ≤ z
  | 0 => Nat.le_refl _
  | z + 1 => by
    unfold firstS
    rw [List.length_append]
    have := firstS_len sd z
    split <;> simp <;> omega
theorem firstS_snoc (sd : Int → Bool) (z : Nat) : firstS sd (z + 1) = firstS sd z ++ (if sd (z : Int) then [(z : Int)] else []) := rfl
set_option maxRecDepth 100000 in
set_option maxHeartbeats 4000000 in
theorem first_any (G : Gr) (v : Value) (A2 : Option Addr) (n2 c2 : Nat) (seeds : List Int) (w : World) (h : GHold w G v) (hgd : Good11 G) (hs : IRow w A2 n2 c2 seeds) (hn2 : n2 ≤ 100000) :
    Calls Try.prog 64 #[v, .slice A2 n2 c2] w fun e w' => ∃ v', e = .returned v' ∧ w'.ownsRow w.heap.size 3 1 v' (firstS (seedB G.gn seeds) G.sz.toNat).length (intsV (firstS (seedB G.gn seeds) G.sz.toNat)) ∧ Below w.heap.size w w' := by
  obtain ⟨A, n, c, B, m, k, rfl, h1, h2⟩ := h
  have hm : m ≤ 100000 := by rw [← h2.len]; exact hgd.few.2
  have hlo := hgd.lo
  have hhi := hgd.hi
  have HB0 : Hid (Below w.heap.size w ((w.alloc (.cells #[.int .i64 G.sz, .slice A n c, .slice B m k] 31)).alloc (.cells #[.slice A2 n2 c2] 22))) := Lib.hid ((one_new w _).trans ((one_new _ _).mono (by simp)))
  have HX : Hid (((w.alloc (.cells #[.int .i64 G.sz, .slice A n c, .slice B m k] 31)).alloc (.cells #[.slice A2 n2 c2] 22)).heap[w.heap.size]? = some (.cells #[.int .i64 G.sz, .slice A n c, .slice B m k] 31 (0, 0))) := Lib.hid ((Below.heap_alloc _ _ _ (by simp)).trans (heap_alloc_new _ _))
  have HY : Hid (((w.alloc (.cells #[.int .i64 G.sz, .slice A n c, .slice B m k] 31)).alloc (.cells #[.slice A2 n2 c2] 22)).heap[w.heap.size + 1]? = some (.cells #[.slice A2 n2 c2] 22 (0, 0))) := Lib.hid (heap_alloc2_new _ _ _)
  have HB1 := Lib.hid (h2.later HB0.out); have HS1 := Lib.hid (hs.later HB0.out)
  obtain ⟨z, hz⟩ : ∃ z : Nat, G.sz = (z : Int) := ⟨G.sz.toNat, by omega⟩
  have HZ : Hid (G.sz.toNat = z) := Lib.hid (by omega)
  have HGZ : Hid (G.sz = (z : Int)) := Lib.hid hz
  have hz64 : z ≤ 64 := by omega
  clear hz
  rw [HZ.out]
  have HFC : Hid (∀ (y : World) (x : Int), Below ((w.alloc (.cells #[.int .i64 G.sz, .slice A n c, .slice B m k] 31)).alloc (.cells #[.slice A2 n2 c2] 22)).heap.size ((w.alloc (.cells #[.int .i64 G.sz, .slice A n c, .slice B m k] 31)).alloc (.cells #[.slice A2 n2 c2] 22)) y → Calls Try.prog 68 #[.int .i64 x, .pointer (some ⟨w.heap.size + 1, 0, none⟩), .pointer (some ⟨w.heap.size, 0, none⟩)] y (SaysL (.bool (seedB G.gn seeds x)) y)) := Lib.hid fun y x hy => first1_any G A n c B m k A2 n2 c2 seeds x _ _ y ((hy.block _ (by simp; omega)).trans HX.out) ((hy.block _ (by simp)).trans HY.out) (HB1.out.later hy) (HS1.out.later hy) hm hn2
  have HEN : Hid (∀ args w, (callFunc 68 args).run Try.prog w = .ok (.enter 68 args) w) := Lib.hid (enters_of Try.func68 (by kernel_rfl) rfl)
  have HSZ : Hid (w.heap.size ≤ ((w.alloc (.cells #[.int .i64 G.sz, .slice A n c, .slice B m k] 31)).alloc (.cells #[.slice A2 n2 c2] 22)).heap.size) := Lib.hid (by simp; omega)
  generalize seedB G.gn seeds = sd at *
  clear h1 h2 hs HB1 HS1 HY
  go_enter Try.func64, Try.ntmps64
  go_upto_region 1 with fail
  generalize ((w.alloc (.cells #[.int .i64 G.sz, .slice A n c, .slice B m k] 31)).alloc (.cells #[.slice A2 n2 c2] 22)) = y0 at *
  have hc0 : y0.cell? ⟨w.heap.size, 0, none⟩ = some (.int .i64 G.sz) := (cell_of_row _ _ 0 _ _ _ HX.out).trans rfl
  rw [HGZ.out] at hc0
  go_wp2_with fail
  clear hc0 HX
  go_loopw [6, 11] (fun v i wr => ∃ j : Nat, j ≤ z ∧ i = .int .i64 j ∧ Hid (wr.ownsRow y0.heap.size 3 1 v (firstS sd j).length (intsV (firstS sd j)) ∧ Below y0.heap.size y0 wr)) (fun _ i _ => z - (intOf i).toNat)
  case atStart => exact ⟨0, Nat.zero_le _, rfl, Lib.hid ⟨World.ownsRow_nil _ _ _ _, Below.refl _ _⟩⟩
  case round =>
    obtain ⟨j, hj, rfl, HQ⟩ := hrel
    by_cases hlt : j < z
    · have hlt2 : (j : Int) < (z : Int) := by omega
      have HO := Lib.hid HQ.out.1; have HB := Lib.hid HQ.out.2
      have HST := Lib.hid (firstS_snoc sd j)
      have HLE := Lib.hid (firstS_len sd j)
      have HF := Lib.hid (HFC.out wr (j : Int) HB.out)
      generalize sd (j : Int) = s at *
      clear HQ
      generalize firstS sd j = U at *
      go_wp2_with fail
      refine HF.out.mono ?_
      rintro e w1 ⟨rfl, hb⟩
      replace HO := Lib.hid (own_later HO.out hb)
      replace HB := Lib.hid (HB.out.trans (hb.mono HB.out.size))
      clear hb HF
      cases s
      · rw [if_neg (by decide), List.append_nil] at HST
        go_wp2_with fail
        exact ⟨⟨j + 1, hlt, by go_num, Lib.hid ⟨by rw [HST.out]; exact HO.out, HB.out⟩⟩, by simp [intOf]; omega⟩
      · rw [if_pos rfl] at HST
        have hgl := HLE.out
        have hsz : y0.heap.size ≤ w1.heap.size := HB.out.size
        obtain ⟨A1, c1, hv, -⟩ := Row.of_own HO.out
        subst hv
        go_wp2_with (at_builtin; go_must (refine wpList_app_new w1 rfl (.tmp 17) (.tmp 19) 22 3 rfl y0.heap.size Try.underlying22 i64_info rfl _ U.length (intsV U) HO.out rfl 1 #[.int .i64 (j : Int)] rfl (by simp [Value.oneCell']) rfl rfl (by unfold maxLen; omega) (by omega) hsz ?_); intro v3 w3 ho3 hb3; have HO3 := Lib.hid ho3; have HB3 := Lib.hid (HB.out.trans hb3); clear ho3 hb3)
        exact ⟨⟨j + 1, hlt, by go_num, Lib.hid (by rw [HST.out, List.length_append, intsV_app]; exact ⟨HO3.out, HB3.out⟩)⟩, by simp [intOf]; omega⟩
    · have hlt2 : ¬ (j : Int) < (z : Int) := by omega
      have hjz : j = z := by omega
      subst hjz
      have HO := Lib.hid HQ.out.1; have HB := Lib.hid HQ.out.2
      clear HQ
      obtain ⟨A1, c1, hv, -⟩ := Row.of_own HO.out
      subst hv
      go_wp2_with fail
      go_ret
      exact ⟨_, rfl, own_mono HO.out HSZ.out, HB0.out.trans (HB.out.mono HSZ.out)⟩
end Go.Proofs.Ytdildmfjekdlgaa
/- A queue in a slice: numbers in a block of one's own, taken from the front and appended; numbers in a block that is known whole. Plain facts. -/
namespace Go.Proofs.Ytdildmfjekdlgaa
open Go.RowKit Go
/-- A slice of numbers that lies, from some place on, in a block of one's own. -/
def QOwn (w : World) (B : Nat) (v : Value) (n : Nat) (xs : List Value) : Prop :=
  xs.length = n ∧ ((v = .slice none 0 0 ∧ n = 0) ∨ ∃ g off cap cur, v = .slice (some ⟨g, off, none⟩) n cap ∧ B ≤ g ∧ w.heap[g]? = some (.cells cur 3 (0, 0)) ∧ n ≤ cap ∧ cap ≤ maxLen ∧ off + cap ≤ cur.size ∧ (cur.toList.drop off).take n = xs)
theorem QOwn.of_own {w : World} {B : Nat} {v : Value} {n : Nat} {xs : List Value} (h : w.ownsRow B 3 1 v n xs) : QOwn w B v n xs := by
  refine ⟨by have := h.1; omega, ?_⟩
  rcases h.2 with h1 | ⟨g, cap, cur, rfl, h1, h2, h3, h4, h5, h6⟩
  · exact .inl h1
  · exact .inr ⟨g, 0, cap, cur, rfl, h1, h2, h3, h4, by omega, by rw [List.drop_zero, ← h6, Nat.mul_one]⟩
theorem QOwn.row {w : World} {B : Nat} {v : Value} {n : Nat} {xs : List Value} (h : QOwn w B v n xs) : ∃ A c, v = .slice A n c ∧ Row w A n c 1 xs := by
  obtain ⟨hl, ⟨rfl, rfl⟩ | ⟨g, off, cap, cur, rfl, hB, hg, hn, hc, hs, ht⟩⟩ := h
  · have : xs = [] := List.eq_nil_of_length_eq_zero hl
    subst this
    exact ⟨none, 0, rfl, Row.nilRow w 1⟩
  · refine ⟨_, _, rfl, ⟨by omega, hn, fun h => (by cases h), fun ad hA _ => ?_⟩⟩
    injection hA with hA
    subst hA
    refine ⟨g, off, rfl, fun i hi => ?_⟩
    rw [cell_of_row _ _ _ _ _ _ hg, ← ht, List.getElem?_take, if_pos (by omega), List.getElem?_drop, Array.getElem?_toList]
theorem QOwn.lt {w : World} {B : Nat} {v : Value} {n : Nat} {xs : List Value} (h : QOwn w B v n xs) : ∀ k, v.ownBlock = some k → B ≤ k ∧ k < w.heap.size := by
  intro k hk
  obtain ⟨hl, ⟨rfl, rfl⟩ | ⟨g, off, cap, cur, rfl, hB, hg, -⟩⟩ := h
  · cases hk
  · have e : g = k := by injection hk
    subst e
    exact ⟨hB, (Array.getElem?_eq_some_iff.1 hg).1⟩
theorem QOwn.keep {w w' : World} {B : Nat} {v : Value} {n : Nat} {xs : List Value} (h : QOwn w B v n xs) (hk : ∀ k, v.ownBlock = some k → w'.heap[k]? = w.heap[k]?) : QOwn w' B v n xs := by
  obtain ⟨hl, h1 | ⟨g, off, cap, cur, rfl, hB, hg, r⟩⟩ := h
  · exact ⟨hl, .inl h1⟩
  · exact ⟨hl, .inr ⟨g, off, cap, cur, rfl, hB, (hk g rfl).trans hg, r⟩⟩
/-- The queue without its first number. -/
theorem QOwn.tail {w : World} {B : Nat} {A : Option Addr} {n c : Nat} {x : Value} {xs : List Value} (h : QOwn w B (.slice A (n + 1) c) (n + 1) (x :: xs)) : QOwn w B (.slice (dropA A c 1 1) n (c - 1)) n xs ∧ (Value.slice (dropA A c 1 1) n (c - 1)).ownBlock = (Value.slice A (n + 1) c).ownBlock := by
  obtain ⟨hl, ⟨h1, h2⟩ | ⟨g, off, cap, cur, h1, hB, hg, hn, hc, hs, ht⟩⟩ := h
  · omega
  · injection h1 with h1 h2 h3
    subst h1 h3
    have hl2 : xs.length = n := by simpa using hl
    unfold dropA
    split
    · rename_i hc1
      have hn0 : n = 0 := by omega
      have hx : xs = [] := List.eq_nil_of_length_eq_zero (by omega)
      subst hn0 hx
      refine ⟨⟨rfl, .inr ⟨g, off, c - 1, cur, rfl, hB, hg, Nat.zero_le _, by omega, by omega, rfl⟩⟩, rfl⟩
    · refine ⟨⟨hl2, .inr ⟨g, off + 1, c - 1, cur, by rw [Option.map_some, Addr.add_lit], hB, hg, by omega, by omega, by omega, ?_⟩⟩, rfl⟩
      have e : cur.toList.drop (off + 1) = (cur.toList.drop off).drop 1 := by rw [List.drop_drop]
      rw [e]
      have e2 : (List.take n (List.drop 1 (List.drop off cur.toList))) = ((List.drop off cur.toList).take (n + 1)).drop 1 := by rw [List.drop_take]; rfl
      rw [e2, ht]
      rfl
section
variable {P : Program}
theorem run_appQ (w : World) (B : Nat) (t tx ty : TypeId) (i : TypeInfo) (z : Value) (bytes : Nat) (ht : P.underlying t = some (.slice 3)) (hi : P.info? 3 = some i) (hz : i.zero = some z)
    (hsize : i.size = 1) (hby : i.bytes = bytes) (hzs : z.cells.size = 1)
    (v : Value) (n : Nat) (xs : List Value) (hq : QOwn w B v n xs) (x : Value) (m : Nat) (news : List Value) (hs : Src P 1 tx x m news w)
    (h63 : n + m ≤ maxLen) (hbytes : (n + m) * bytes ≤ 140737488355328) (hbase : B ≤ w.heap.size) :
    ∃ v' w', (Builtin.append_ #[t, tx] ty #[v, x]).run P w = .ok v' w' ∧ QOwn w' B v' (n + m) (xs ++ news) ∧ w.grownBy w' v.ownBlock ∧ (v'.ownBlock = v.ownBlock ∨ v'.ownBlock = some w.heap.size) := by
  obtain ⟨hl, ⟨rfl, rfl⟩ | ⟨g, off, cap, cur, rfl, hB, hg, hnc, hcm, hcs, htake⟩⟩ := hq
  · have hx : xs = [] := List.eq_nil_of_length_eq_zero hl
    subst hx
    obtain ⟨v', w', h1, h2, h3, h4⟩ := run_app w B t tx ty 3 i z 1 bytes ht hi hz hsize hby hzs (.slice none 0 0) 0 [] (World.ownsRow_nil _ _ _ _) x m news hs h63 hbytes hbase
    exact ⟨v', w', h1, QOwn.of_own h2, h3, h4⟩
  · have hnl := hs.newsLen
    rw [Nat.mul_one] at hnl
    by_cases hroom : n + m ≤ cap
    · have hfit : off + n + news.length ≤ cur.size := by omega
      have hst := run_storeCells_at P g (off + n) 3 news 0 cur w hg (by simpa using hfit) hs.one
      simp only [Nat.add_zero] at hst
      refine ⟨.slice (some ⟨g, off, none⟩) (n + m) cap, w.setRow g (cur.toList.take (off + n) ++ news ++ cur.toList.drop (off + n + news.length)).toArray, ?_, ⟨by rw [List.length_append]; omega, .inr ⟨g, off, cap, _, rfl, hB, setRow_heap w g cur _ 3 _ hg, hroom, hcm, ?_, ?_⟩⟩, ⟨rfl, rfl, rfl, by simp, fun k _ hk => setRow_other w g k _ (fun e => hk (by simp [Value.ownBlock, e]))⟩, .inl rfl⟩
      · rcases hs.kind with ⟨e', hk⟩ | hk <;> simp [Builtin.append_, run_underlying ht, run_underlying hk, sizeOf, typeInfo, hi, hsize, hs.len, hroom, hs.cells, Addr.add_lit, hst]
      · simp only [List.size_toArray, List.length_append, List.length_take, List.length_drop, Array.length_toList]; omega
      · rw [← htake]
        apply List.ext_getElem?
        intro q
        have hcl : cur.toList.length = cur.size := Array.length_toList
        rw [List.getElem?_take]
        split
        · rename_i hq
          rw [List.getElem?_drop]
          by_cases h1 : q < n
          · rw [List.append_assoc, List.getElem?_append_left (by rw [List.length_take]; omega), List.getElem?_take, if_pos (by omega), List.getElem?_append_left (by rw [List.length_take, List.length_drop]; omega), List.getElem?_take, if_pos h1, List.getElem?_drop]
          · rw [List.getElem?_append_left (by rw [List.length_append, List.length_take]; omega), List.getElem?_append_right (by rw [List.length_take]; omega), List.getElem?_append_right (by rw [List.length_take, List.length_drop]; omega), List.length_take, List.length_take, List.length_drop]
            congr 1
            omega
        · rw [List.getElem?_eq_none (by rw [List.length_append, List.length_take, List.length_drop]; omega)]
    · have holds : ∀ j u, xs[j]? = some u → w.cell? ((⟨g, off, none⟩ : Addr).add j) = some u := by
        intro j u hj
        have hj2 : j < n := by rw [← hl]; exact (List.getElem?_eq_some_iff.1 hj).1
        rw [Addr.add_lit, cell_of_row _ _ _ _ _ _ hg, ← hj, ← htake, List.getElem?_take, if_pos hj2, List.getElem?_drop, Array.getElem?_toList]
      have hold := run_firstCells_some (P := P) w.drew i.size n ⟨g, off, none⟩ n cap xs (by rw [hsize, Nat.mul_one]; exact hl) (by simpa using holds)
      have hr := run_append_grow_src (P := P) w t tx ty 3 i z ht hi hz (some ⟨g, off, none⟩) n cap xs hold x m news (by rw [hsize]; exact hs) (by omega) (by simp only [maxLen] at h63; omega) (growslice_fits (by omega) (by rw [hby]; exact hbytes))
      have hge := grownCap_ge w (n + m) cap 3
      have hcm2 : grownCap w (n + m) cap 3 ≤ maxLen := grownCap_le_maxLen w (n + m) cap 3 h63
      refine ⟨_, _, hr, ⟨by rw [List.length_append]; omega, .inr ⟨w.heap.size, 0, _, _, rfl, hbase, heap_alloc_new w.drew _, hge, hcm2, ?_, ?_⟩⟩, ⟨rfl, rfl, rfl, by simp, fun k hk _ => Below.heap_alloc w.drew _ k hk⟩, .inr rfl⟩
      · simp only [Array.size_append, List.size_toArray, size_zeroCells, hzs, List.length_append]
        omega
      · rw [List.drop_zero, Array.toList_append]
        have : (xs ++ news).length = n + m := by rw [List.length_append]; omega
        rw [← this]
        exact List.take_left
variable {ops : Array Oper} {rest : List Oper} {o : Oper} {a : Act} {Q : Exit → Act → World → Prop}
/-- append of numbers that a new block holds, onto a queue. -/
theorem wpList_appQ_new (wr : World) (hgd : o.guard = none) (s x : Operand) (t : TypeId) (ho : o.op = .call { callee := .builtin .append, args := #[s, x], argTypes := #[t, t] })
    (B : Nat) (ht : P.underlying t = some (.slice 3)) {z : Value} {bytes : Nat} (hi : (P.info? 3).map (fun i => (i.zero, i.size, i.bytes)) = some (some z, 1, bytes)) (hzs : z.cells.size = 1)
    (v : Value) (n : Nat) (xs : List Value) (hq : QOwn wr B v n xs) (hs : a.eval s = v) (cs : Array Value) (hm : cs.size = 1) (h1 : ∀ u ∈ cs.toList, u.oneCell' = true)
    (hx : a.eval x = .slice (some ⟨wr.heap.size, 0, none⟩) 1 1) {w0 : World} {fr : Nat × Nat} (hw0 : w0 = wr.alloc (.cells cs 3 fr))
    (h63 : n + 1 ≤ maxLen) (hbytes : (n + 1) * bytes ≤ 140737488355328) (hbase : B ≤ wr.heap.size)
    (h : ∀ v' w', QOwn w' B v' (n + 1) (xs ++ cs.toList) → Below B wr w' → (∀ k, k < wr.heap.size → v.ownBlock ≠ some k → w'.heap[k]? = wr.heap[k]?) → (v'.ownBlock = v.ownBlock ∨ ∃ k, wr.heap.size ≤ k ∧ v'.ownBlock = some k) → wpList P ops Q rest (a.put o.dst v') w') :
    wpList P ops Q (o :: rest) a w0 := by
  subst hw0
  obtain ⟨i0, hi0, hz0, hz1, hz2⟩ := info_parts hi
  have hq2 : QOwn (wr.alloc (.cells cs 3 fr)) B v n xs := hq.keep fun k hk => Below.heap_alloc _ _ _ (hq.lt k hk).2
  obtain ⟨v', w', hr, h2, h3, h4⟩ := run_appQ (wr.alloc (.cells cs 3 fr)) B t t o.type i0 z bytes ht hi0 hz0 hz1 hz2 hzs v n xs hq2 _ 1 cs.toList ((Row.of_block (sz := 1) (heap_alloc_new _ _) (by rw [hm])).src ht h1) h63 hbytes (by simp; omega)
  refine wpList_plain hgd fun K hK => ?_
  unfold Oper.wp execOp
  simp only [ho, resolve, invoke, builtin, Sem.run_bind, Sem.run_pure, Result.andThen_ok, List.map_toArray, List.map_cons, List.map_nil, hs, hx, hr]
  refine hK _ _ (h v' w' h2 ((((Below.refl B wr).alloc hbase _)).grown h3 (by simp; omega) (fun k hk => (hq.lt k hk).1)) (fun k hk hne => ?_) (h4.imp id (fun e => ⟨_, by simp, e⟩)))
  rw [h3.block k (by simp; omega) (fun e => hne e.symm), Below.heap_alloc _ _ _ hk]
end
/-- A block of numbers that is known whole. -/
def IBlk (w : World) (g : Nat) (D : List Int) : Prop := w.heap[g]? = some (.cells (intsV D).toArray 3 (0, 0))
theorem IBlk.lt {w : World} {g : Nat} {D : List Int} (h : IBlk w g D) : g < w.heap.size := (Array.getElem?_eq_some_iff.1 h).1
theorem IBlk.keep {w w' : World} {g : Nat} {D : List Int} (h : IBlk w g D) (hk : w'.heap[g]? = w.heap[g]?) : IBlk w' g D := hk.trans h
theorem IBlk.later {w w' : World} {g : Nat} {D : List Int} (h : IBlk w g D) (hb : Below w.heap.size w w') : IBlk w' g D := h.keep (hb.block g h.lt)
theorem IBlk.cell {w : World} {g : Nat} {D : List Int} (h : IBlk w g D) (k : Nat) (hk : k < D.length) : w.cell? ⟨g, k, none⟩ = some (.int .i64 (D.getD k 0)) := by
  rw [cell_of_row _ _ _ _ _ _ h, List.getElem?_toArray, intsV_get _ _ hk]; rfl
theorem IBlk.frozen {w : World} {g : Nat} {D : List Int} (h : IBlk w g D) (k : Nat) : w.frozen? ⟨g, k, none⟩ = false := by
  unfold World.frozen?; rw [h]; simp
theorem intsV_set (D : List Int) (k : Nat) (v : Int) : (intsV D).toArray.setIfInBounds k (.int .i64 v) = (intsV (D.set k v)).toArray := by
  rw [List.setIfInBounds_toArray]
  unfold intsV
  rw [List.map_set]; rfl
theorem IBlk.set {w : World} {g : Nat} {D : List Int} (h : IBlk w g D) (k : Nat) (v : Int) : IBlk (w.setCell ⟨g, k, none⟩ (.int .i64 v)) g (D.set k v) := by
  have h1 := heap_setCell_same w g k _ _ (.int .i64 v) h
  rw [intsV_set] at h1
  exact h1
theorem IBlk.row {w : World} {g : Nat} {D : List Int} (h : IBlk w g D) : IRow w (some ⟨g, 0, none⟩) D.length D.length D := by
  have h1 := Row.of_block (n := D.length) (sz := 1) h (by simp [intsV_len])
  exact h1
theorem IBlk.row' {w : World} {g z : Nat} {D : List Int} (h : IBlk w g D) (hz : D.length = z) : IRow w (some ⟨g, 0, none⟩) z z D := by rw [← hz]; exact h.row
end Go.Proofs.Ytdildmfjekdlgaa
