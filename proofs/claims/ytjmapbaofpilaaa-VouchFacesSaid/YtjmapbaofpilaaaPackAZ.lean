import Derived.Test.YtjmapbaofpilaaaPackAV
import Derived.Test.YtjmapbaofpilaaaPackAY
import Derived.Test.YtjmapbaofpilaaaPackAU
import Derived.Test.YtjmapbaofpilaaaPackAX
import Derived.Test.YtjmapbaofpilaaaPackAA
import Derived.ProofKit
import Derived.OpenShut
import Derived.Carry
import Derived.Handed
import Derived.ChangeMaps5
/- Plain facts for the law VouchLast: a chain of vouches for one key and their revocations, with the ends and the revocations kept beside it. -/
namespace Go.Proofs.Ytjmapbaofpilaaa
open Go.RowKit
/-- A statement that says no more than a time, a kind and three numbers. -/
def bareD (time kind a b c : Int) : Stm := ⟨0, 0, ⟨#[]⟩, time, kind, a, b, c, [], [], ⟨#[]⟩, 0, ⟨#[]⟩⟩
theorem bareD_small (time kind a b c : Int) : Small (bareD time kind a b c) := ⟨Nat.zero_le _, Nat.zero_le _, Nat.zero_le _, by show (pinsBs []).length ≤ _; decide, Nat.zero_le _, Nat.zero_le _⟩
theorem draft_prev (au : Int) (l : List Stm) (s : Stm) : (draftR au l s).prev.size = if l.length = 0 then 0 else 32 := by
  unfold draftR
  by_cases h : l.length = 0
  · rw [if_pos h, if_pos h]; rfl
  · rw [if_neg h, if_neg h]; exact digS_size _
/-- What is a vouch, and what revokes one, is well formed. -/
theorem check_bare (au : Int) (l : List Stm) (time kind a b c : Int) (h1 : 0 ≤ au ∧ au ≤ 63) (h2 : 0 ≤ time ∧ time ≤ 1000000) (hl : l.length ≤ 199)
    (hk : (kind = 1 ∧ 0 ≤ a ∧ a ≤ 63 ∧ a ≠ au ∧ 1 ≤ b ∧ b ≤ 3 ∧ time ≤ c ∧ c ≤ 2000000) ∨ (kind = 2 ∧ 0 ≤ a ∧ a ≤ 199 ∧ b = 0 ∧ c = 0)) : checkV (sealOf (draftR au l (bareD time kind a b c))) = 0 := by
  have hp := draft_prev au l (bareD time kind a b c)
  have ha : (draftR au l (bareD time kind a b c)).author = au := by unfold draftR; split <;> rfl
  have hn : (draftR au l (bareD time kind a b c)).number = (l.length : Int) := by
    unfold draftR
    split
    · rename_i h; rw [h]; rfl
    · rfl
  have e1 : (draftR au l (bareD time kind a b c)).time = time := by unfold draftR; split <;> rfl
  have e2 : (draftR au l (bareD time kind a b c)).kind = kind := by unfold draftR; split <;> rfl
  have e3 : (draftR au l (bareD time kind a b c)).a = a := by unfold draftR; split <;> rfl
  have e4 : (draftR au l (bareD time kind a b c)).b = b := by unfold draftR; split <;> rfl
  have e5 : (draftR au l (bareD time kind a b c)).c = c := by unfold draftR; split <;> rfl
  have e6 : (draftR au l (bareD time kind a b c)).list = [] := by unfold draftR; split <;> rfl
  have e7 : (draftR au l (bareD time kind a b c)).pins = [] := by unfold draftR; split <;> rfl
  have e8 : (draftR au l (bareD time kind a b c)).body.size = 0 := by unfold draftR; split <;> rfl
  generalize draftR au l (bareD time kind a b c) = d at *
  have f : ∀ (v lo hi : Int), lo ≤ v → v ≤ hi → btw v lo hi = true := fun v lo hi g1 g2 => by unfold btw; rw [decide_eq_true g1, decide_eq_true g2]; rfl
  have k1 : isKeyB (sealOf d).author = true := by show btw d.author 0 63 = true; rw [ha]; exact f _ _ _ h1.1 h1.2
  have k2 : isTrustB (sealOf d).kind = true := by show btw d.kind 1 3 = true; rw [e2]; exact f _ _ _ (by omega) (by omega)
  have k3 : isKindB (sealOf d).kind = true := by unfold isKindB; rw [k2]; rfl
  have k4 : btw (sealOf d).time 0 2147483648 = true := by show btw d.time _ _ = true; rw [e1]; exact f _ _ _ h2.1 (by omega)
  have k5 : fitsB (sealOf d) = true := by
    unfold fitsB
    show (if d.kind = 1 then isKeyB d.a && (d.a != d.author) && btw d.b 1 3 && btw d.c d.time 2147483648 else if d.kind = 2 then btw d.a 0 199 && (d.b == 0) && (d.c == 0) else if d.kind = 3 then (d.a == 0) && (d.b == 0) && (d.c == 0) else true) = true
    rw [e1, e2, e3, e4, e5, ha]
    rcases hk with ⟨g0, g1, g2, g3, g4, g5, g6, g7⟩ | ⟨g0, g1, g2, g3, g4⟩
    · rw [if_pos g0, show isKeyB a = true from f _ _ _ g1 g2, show (a != au) = true by rw [bne_iff_ne]; exact g3, f b 1 3 g4 g5, f c time 2147483648 g6 (by omega)]; rfl
    · rw [if_neg (by omega), if_pos g0, f a 0 199 g1 g2, g3, g4]; rfl
  have k6 : rangeB (sealOf d) = true := by
    unfold rangeB
    rw [k5]
    show (btw d.number 0 199 && isValueB d.a && isValueB d.b && isValueB d.c && listB' d.list && true) = true
    rw [hn, e3, e4, e5, e6, f (l.length : Int) 0 199 (by omega) (by omega), show isValueB a = true from f _ _ _ (by omega) (by omega), show isValueB b = true from f _ _ _ (by omega) (by omega), show isValueB c = true from f _ _ _ (by omega) (by omega)]
    rfl
  have k7 : formB (sealOf d) = true := by
    unfold formB
    rw [k2]
    show (if true && decide (0 < d.list.length + d.pins.length + d.body.size) then false else prevB (sealOf d) && pinsB d.pins) = true
    rw [e6, e7, e8, show prevB (sealOf d) = true from ?_]
    · rfl
    · unfold prevB
      show (if d.number = 0 then decide (d.prev.size = 0) else ((d.prev.size : Int) == 32)) = true
      rw [hn, hp]
      by_cases hz : l.length = 0
      · rw [if_pos (by omega), if_pos hz]; rfl
      · rw [if_neg (by omega), if_neg hz]; rfl
  unfold checkV
  rw [k1, k3, k4, k6, k7]
  show (if true = false then (4 : Int) else if true = false then 5 else if true = false then 9 else if true = false then 2 else if 64 < d.list.length ∨ 64 < d.pins.length ∨ 4096 < d.body.size then 3 else if true = false then 1 else 0) = 0
  rw [e6, e7, e8]
  rfl
/-- A chain of author 3: vouches for key 5, and revocations; beside it, where each vouch ends and when it was revoked. -/
structure LastI (c : List Stm) (ends rev : List Int) : Prop where
  ch : Ch 3 c
  len1 : ends.length = c.length
  len2 : rev.length = c.length
  each : ∀ i, i < c.length → ((c.getD i noStm).kind = 1 ∧ (c.getD i noStm).a = 5 ∧ ends.getD i 0 = (c.getD i noStm).c ∧ 0 ≤ (c.getD i noStm).c ∧ rev.getD i 0 = revokedS c (c.getD i noStm)) ∨ ((c.getD i noStm).kind = 2 ∧ ends.getD i 0 = -1 ∧ rev.getD i 0 = -1)
theorem LastI.nil : LastI [] [] [] := ⟨Ch.nil 3, rfl, rfl, fun _ h => absurd h (Nat.not_lt_zero _)⟩
theorem int_snoc_lt {c : List Int} {x : Int} {i : Nat} (h : i < c.length) : (c ++ [x]).getD i 0 = c.getD i 0 := by
  rw [List.getD_eq_getElem?_getD, List.getElem?_append_left h, ← List.getD_eq_getElem?_getD]
theorem int_snoc_eq {c : List Int} {x : Int} {n : Nat} (h : c.length = n) : (c ++ [x]).getD n 0 = x := by
  rw [List.getD_eq_getElem?_getD, List.getElem?_append_right (by omega), h, Nat.sub_self]; rfl
theorem LastI.times {c : List Stm} {ends rev : List Int} (h : LastI c ends rev) : ∀ a ∈ c, 0 ≤ a.time := fun _ ha => (check_bounds (h.ch.mem ha).2).1
theorem revoked_none {s : Stm} : ∀ {l : List Stm}, (∀ a ∈ l, ¬ (a.author = s.author ∧ s.number < a.number ∧ a.kind = 2 ∧ a.a = s.number)) → revokedS l s = -1
  | [], _ => rfl
  | a :: l, h => by
    have e : revokedS (a :: l) s = if a.author = s.author ∧ s.number < a.number ∧ a.kind = 2 ∧ a.a = s.number then a.time else revokedS l s := rfl
    rw [e, if_neg (h a (List.mem_cons.2 (.inl rfl)))]
    exact revoked_none fun b hb => h b (List.mem_cons.2 (.inr hb))
theorem revoked_range {s : Stm} : ∀ {l : List Stm}, (∀ a ∈ l, 0 ≤ a.time) → revokedS l s = -1 ∨ 0 ≤ revokedS l s
  | [], _ => .inl rfl
  | a :: l, h => by
    have e : revokedS (a :: l) s = if a.author = s.author ∧ s.number < a.number ∧ a.kind = 2 ∧ a.a = s.number then a.time else revokedS l s := rfl
    rw [e]
    split
    · exact .inr (h a (List.mem_cons.2 (.inl rfl)))
    · exact revoked_range fun b hb => h b (List.mem_cons.2 (.inr hb))
/-- A vouch comes behind the chain. -/
theorem LastI.vouch {c : List Stm} {ends rev : List Int} (h : LastI c ends rev) {x : Stm} (hx : Ch 3 (c ++ [x])) (hk : x.kind = 1) (ha : x.a = 5) (h0 : 0 ≤ x.c) : LastI (c ++ [x]) (ends ++ [x.c]) (rev ++ [-1]) := by
  have ho : ∀ s, revokedS (c ++ [x]) s = revokedS c s := fun s => (revoked_snoc s x h.times).2 (by omega)
  refine ⟨hx, by simp [h.len1], by simp [h.len2], fun i hi => ?_⟩
  rw [List.length_append, List.length_singleton] at hi
  by_cases hl : i < c.length
  · rw [snoc_lt hl, int_snoc_lt (by rw [h.len1]; exact hl), int_snoc_lt (by rw [h.len2]; exact hl), ho]
    exact h.each i hl
  · have he : i = c.length := by omega
    subst he
    rw [snoc_eq, int_snoc_eq h.len1, int_snoc_eq h.len2, ho]
    refine .inl ⟨hk, ha, rfl, h0, (revoked_none fun a hm hc => ?_).symm⟩
    obtain ⟨j, hj, rfl⟩ := mem_at hm
    have h1 := h.ch.each j hj
    have h2 := hx.each c.length (by simp)
    rw [snoc_eq] at h2
    omega
/-- What a revocation of number k turns beside the chain. -/
def revSet (ends rev : List Int) (k : Nat) (time : Int) : List Int := if 0 ≤ ends.getD k 0 ∧ rev.getD k 0 < 0 then rev.set k time else rev
theorem set_getD {l : List Int} {k i : Nat} {v : Int} (hk : k < l.length) : (l.set k v).getD i 0 = if i = k then v else l.getD i 0 := by
  rw [List.getD_eq_getElem?_getD, List.getElem?_set, List.getD_eq_getElem?_getD]
  by_cases h : k = i
  · subst h; rw [if_pos rfl, if_pos hk, if_pos rfl]; rfl
  · rw [if_neg h, if_neg (fun e => h e.symm)]
theorem LastI.revoke {c : List Stm} {ends rev : List Int} (h : LastI c ends rev) {x : Stm} {k : Nat} (hkc : k < c.length) (hx : Ch 3 (c ++ [x])) (hk : x.kind = 2) (ha : x.a = (k : Int)) : LastI (c ++ [x]) (ends ++ [-1]) (revSet ends rev k x.time ++ [-1]) := by
  have hlr : (revSet ends rev k x.time).length = c.length := by unfold revSet; split <;> simp [h.len2]
  have hxe := hx.each c.length (by simp)
  rw [snoc_eq] at hxe
  refine ⟨hx, by simp [h.len1], by simp [hlr], fun i hi => ?_⟩
  rw [List.length_append, List.length_singleton] at hi
  by_cases hl : i < c.length
  · rw [snoc_lt hl, int_snoc_lt (by rw [h.len1]; exact hl), int_snoc_lt (by rw [hlr]; exact hl)]
    have hci := h.ch.each i hl
    have hs := revoked_snoc (c.getD i noStm) x h.times
    rcases h.each i hl with ⟨g1, g2, g3, g4, g5⟩ | ⟨g1, g2, g3⟩
    · refine .inl ⟨g1, g2, g3, g4, ?_⟩
      by_cases hik : i = k
      · subst hik
        rw [hs.1 ⟨by rw [hxe.1, hci.1], by rw [hxe.2.1, hci.2.1]; omega, hk, by rw [ha, hci.2.1]⟩]
        unfold revSet
        have hr := revoked_range (s := c.getD i noStm) h.times
        by_cases hz : revokedS c (c.getD i noStm) = -1
        · rw [if_pos ⟨by omega, by omega⟩, set_getD (by rw [h.len2]; exact hl), if_pos rfl, if_pos hz]
        · rw [if_neg (by omega), if_neg hz, g5]
      · rw [hs.2 (by intro hc; rw [ha, hci.2.1] at hc; omega)]
        unfold revSet
        split
        · rw [set_getD (by rw [h.len2]; exact hkc), if_neg hik, g5]
        · exact g5
    · refine .inr ⟨g1, g2, ?_⟩
      unfold revSet
      by_cases hik : i = k
      · subst hik; rw [if_neg (by omega)]; exact g3
      · split
        · rw [set_getD (by rw [h.len2]; exact hkc), if_neg hik]; exact g3
        · exact g3
  · have he : i = c.length := by omega
    subst he
    rw [snoc_eq, int_snoc_eq h.len1, int_snoc_eq hlr]
    exact .inr ⟨hk, rfl, rfl⟩
/-- The last of the first j that was a vouch by a time; -1 without one. -/
def lastUp (c : List Stm) (ends : List Int) (tm : Int) : Nat → Int
  | 0 => -1
  | j + 1 => if 0 ≤ ends.getD j 0 ∧ (c.getD j noStm).time ≤ tm then (j : Int) else lastUp c ends tm j
theorem lastUp_is (c : List Stm) (ends : List Int) (tm : Int) : ∀ j, (lastUp c ends tm j = -1 ∧ ∀ i, i < j → ¬ (0 ≤ ends.getD i 0 ∧ (c.getD i noStm).time ≤ tm)) ∨
    ∃ k : Nat, k < j ∧ lastUp c ends tm j = (k : Int) ∧ 0 ≤ ends.getD k 0 ∧ (c.getD k noStm).time ≤ tm ∧ ∀ i, k < i → i < j → ¬ (0 ≤ ends.getD i 0 ∧ (c.getD i noStm).time ≤ tm)
  | 0 => .inl ⟨rfl, fun _ h => absurd h (Nat.not_lt_zero _)⟩
  | j + 1 => by
    unfold lastUp
    by_cases h : 0 ≤ ends.getD j 0 ∧ (c.getD j noStm).time ≤ tm
    · rw [if_pos h]
      exact .inr ⟨j, Nat.lt_succ_self _, rfl, h.1, h.2, fun i h1 h2 => by omega⟩
    · rw [if_neg h]
      rcases lastUp_is c ends tm j with ⟨h1, h2⟩ | ⟨k, h1, h2, h3, h4, h5⟩
      · refine .inl ⟨h1, fun i hi => ?_⟩
        by_cases he : i = j
        · rw [he]; exact h
        · exact h2 i (by omega)
      · refine .inr ⟨k, by omega, h2, h3, h4, fun i g1 g2 => ?_⟩
        by_cases he : i = j
        · rw [he]; exact h
        · exact h5 i g1 (by omega)
theorem LastI.here {c : List Stm} {ends rev : List Int} (h : LastI c ends rev) (tm x : Int) : hasI (goneS c tm) x = false := hasI_none (fun s hs => by
  obtain ⟨i, hi, rfl⟩ := mem_at hs
  rcases h.each i hi with g | g <;> omega) tm x
/-- What lies between 3 and 5 at a time. -/
theorem LastI.between {c : List Stm} {ends rev : List Int} (h : LastI c ends rev) (tm : Int) :
    (lastUp c ends tm c.length = -1 ∧ betweenS c 3 5 tm = (noVou, false)) ∨
    ∃ k : Nat, k < c.length ∧ lastUp c ends tm c.length = (k : Int) ∧ betweenS c 3 5 tm = if tm < ends.getD k 0 ∧ (rev.getD k 0 < 0 ∨ tm < rev.getD k 0) then (vouOf c (c.getD k noStm), true) else (noVou, false) := by
  have ho := h.ch.ord10
  rcases lastUp_is c ends tm c.length with ⟨h1, h2⟩ | ⟨k, h1, h2, h3, h4, h5⟩
  · refine .inl ⟨h1, between_none ho fun t ht hk ha hu htm => ?_⟩
    obtain ⟨i, hi, rfl⟩ := mem_at ht
    rcases h.each i hi with g | g
    · exact h2 i hi ⟨by omega, htm⟩
    · omega
  · refine .inr ⟨k, h1, h2, ?_⟩
    rcases h.each k h1 with ⟨g1, g2, g3, g4, g5⟩ | ⟨g1, g2, g3⟩
    · have hm : c.getD k noStm ∈ c := by rw [stm_at h1]; exact List.getElem_mem _
      have hb := between_last ho hm g1 (h.ch.each k h1).1 g2 h4 (fun t ht hk ha hu htm => by
        obtain ⟨i, hi, rfl⟩ := mem_at ht
        rw [(h.ch.each i hi).2.1, (h.ch.each k h1).2.1]
        rcases Nat.lt_or_ge k i with hc | hc
        · rcases h.each i hi with g | g
          · exact absurd ⟨by omega, htm⟩ (h5 i hc hi)
          · omega
        · omega) (h.here tm 3) (h.here tm 5)
      rw [hb, g3, g5]
      have hr := revoked_range (s := c.getD k noStm) h.times
      by_cases hz : tm < (c.getD k noStm).c ∧ (revokedS c (c.getD k noStm) = -1 ∨ tm < revokedS c (c.getD k noStm))
      · rw [if_pos hz, if_pos ⟨hz.1, by omega⟩]
      · rw [if_neg hz, if_neg (by omega)]
    · omega
end Go.Proofs.Ytjmapbaofpilaaa
/- The walk of the law VouchFaces, over any program that gives what layer 10 asks. -/
namespace Go.Proofs.Ytjmapbaofpilaaa
open Go.RowKit
/-- A draft of a time, a kind and three numbers. -/
def bareP10 (time kind a b c : Int) : Pl := ⟨bareD time kind a b c, none, 0, 0, none, 0, 0⟩
theorem bareP10_ok (w : World) (time kind a b c : Int) : PlOk w (bareP10 time kind a b c) := ⟨Row.nilRow _ _, Row.nilRow _ _⟩
/-- In the midst of a round: the dice are there, and the draft's block holds a draft of that time. -/
def DrM (L D : Nat) (t : List Int) (w : World) (g : Nat) (T : Int) (x : World) : Prop := Rnd L D t w x ∧ w.heap.size ≤ g ∧ ∃ k a b c : Int, x.heap[g]? = some (.cells (bareP10 T k a b c).arr 34 (0, 0))
theorem DrM.gave {L D : Nat} {t : List Int} {w x y : World} {g : Nat} {T : Int} (h : DrM L D t w g T x) (hg : Gave L D t x y) (hD : D < w.heap.size) : DrM L D t w g T y := by
  obtain ⟨h1, h2, k, a, b, c, h3⟩ := h
  exact ⟨h1.gave hg, h2, k, a, b, c, (hg.2.block g (Array.getElem?_eq_some_iff.1 h3).1 (by omega)).trans h3⟩
theorem cur_set {x : World} {g i : Nat} {cs : Array Value} {v : Value} (h : x.heap[g]? = some (.cells cs 34 (0, 0))) : (x.setCell ⟨g, i, none⟩ v).heap[g]? = some (.cells (cs.setIfInBounds i v) 34 (0, 0)) := by
  unfold World.setCell
  simp only [Array.getElem?_modify, h]
  rfl
theorem rnd_set {L D : Nat} {t : List Int} {w x : World} {g i : Nat} {v : Value} (h : Rnd L D t w x) (hg : w.heap.size ≤ g) (hD : D < w.heap.size) : Rnd L D t w (x.setCell ⟨g, i, none⟩ v) := by
  obtain ⟨k, hk⟩ := h.dice
  have hb : But g x (x.setCell ⟨g, i, none⟩ v) := But.set x i v
  exact ⟨⟨hb.os.trans h.but.os, hb.tape.trans h.but.tape, hb.output.trans h.but.output, Nat.le_trans h.but.size hb.size, fun j hj hne => (hb.block j (Nat.lt_of_lt_of_le hj h.but.size) (by omega)).trans (h.but.block j hj hne)⟩, k, hk.but hb (by omega) (by have := hk.low; omega)⟩
theorem ord10_nil : Ord10 [] := ⟨fun _ h => (nomatch h), trivial, List.Pairwise.nil⟩
set_option maxRecDepth 100000 in
set_option maxHeartbeats 4000000 in
theorem vfaces_any (H : VouchC) (TA : Option Addr) (tn tc : Nat) (t : List Int) (w : World) (ht : IRow w TA tn tc t) :
    Calls Try.prog 3 #[.slice TA tn tc] w (SaysL (.bool true) w) := by
  have HAW : Hid (∀ y, Calls Try.prog 7 #[] y (SaysL (.bool true) y)) := Lib.hid fun y => awake10_any H y
  have HT := Lib.hid ht; clear ht
  go_enter Try.func3, Try.ntmps3
  go_wp2_with fail
  refine (light_any TA tn tc w).mono ?_
  rintro e w0 ⟨rfl, rfl⟩
  by_cases hn : tn ≤ 400
  · have gd : decide (tn ≤ 400) = true := decide_eq_true hn
    go_wp2_with fail
    clear gd
    refine (roll_any w.heap.size TA tn tc t w HT.out (by omega) (Nat.le_refl _) (fun ad e h0 => Row.lt HT.out (by decide) ad e h0)).mono ?_
    rintro e w1 ⟨rfl, hd, hb⟩
    obtain ⟨D, hD⟩ : ∃ D, D = w.heap.size := ⟨_, rfl⟩
    obtain ⟨L, hL⟩ : ∃ L, L = w.heap.size := ⟨_, rfl⟩
    have HR1 : Hid (Rnd L D t w1 w1) := Lib.hid ⟨But.refl _ _, 0, by rw [hL, hD]; exact hd⟩
    have HB := Lib.hid hb
    have HDD : Hid (w.heap.size = D) := Lib.hid hD.symm
    have hDw : D < w1.heap.size := HR1.out.lt
    rw [← hD]
    clear hd hb hD HT hL
    go_wp2_with fail
    go_loopg [4, 5] 2 (fun gk v i wr => ∃ (a : Nat) (l' : List Pl), i = .int .i64 a ∧ a ≤ 2 ∧ 2 - a ≤ gk ∧ l'.length ≤ a * 8 ∧ Hid (LGot wr w1.heap.size v l' ∧ Rnd L D t w1 wr) ∧ Hid (Ord10 (l'.map (·.s)) ∧ ∀ s ∈ l'.map (·.s), s.author < (a : Int)))
    case atStart => exact ⟨0, [], rfl, by omega, by omega, Nat.zero_le _, Lib.hid ⟨LGot.nil _ _, HR1.out⟩, Lib.hid ⟨ord10_nil, fun _ h => (nomatch h)⟩⟩
    case round =>
      clear HR1
      obtain ⟨a, l', rfl, ha, hgk, hll, HQ, HOL⟩ := hrel
      obtain ⟨A1, c1, hv, -⟩ := HQ.out.1.own.row
      subst hv
      by_cases hlt : a < 2
      · have hlt2 : (a : Int) < 2 := by omega
        go_wp2_with fail
        clear hlt2
        refine (next_g L D t 9 wr HQ.out.2.dice (by omega) (by omega)).mono ?_
        rintro e w2 ⟨N0, rfl, hN0, hN1, hg⟩
        have HL2 := Lib.hid (HQ.out.1.but hg.2 hDw); have HR2 := Lib.hid (HQ.out.2.gave hg)
        clear hg HQ
        obtain ⟨N, rfl⟩ : ∃ N : Nat, N0 = (N : Int) := ⟨N0.toNat, by omega⟩
        have HN : Hid (N ≤ 8) := Lib.hid (by omega)
        have hDw2 : D < w2.heap.size := HR2.out.lt
        have HR20 : Hid (Rnd L D t w2 w2) := Lib.hid ⟨But.refl _ _, HR2.out.dice⟩
        clear hN0 hN1
        go_wp2_with fail
        go_loopg [6, 7, 8] N (fun gk v6 i7 i8 wr => ∃ (m : Nat) (tm : Int) (c' : List Pl), i8 = .int .i64 m ∧ m ≤ gk ∧ i7 = .int .i64 tm ∧ 0 ≤ tm ∧ tm + 4 * (m : Int) ≤ 4 * (N : Int) ∧ c'.length + m ≤ N ∧ Hid (LGot wr w2.heap.size v6 c' ∧ Rnd L D t w2 wr) ∧ Hid (Ch (a : Int) (c'.map (·.s))))
        case atStart => exact ⟨N, 0, [], rfl, Nat.le_refl _, rfl, by omega, by omega, by simp, Lib.hid ⟨LGot.nil _ _, HR20.out⟩, Lib.hid (Ch.nil _)⟩
        case round =>
          clear HR20
          obtain ⟨m, tm, c', rfl, hmk, rfl, htm0, htm1, hlm, HQ, HCH⟩ := hrel
          obtain ⟨A2, c2, hv2, -⟩ := HQ.out.1.own.row
          subst hv2
          by_cases hm0 : 0 < m
          · have hm2 : (0 : Int) < (m : Int) := by omega
            have hwr : w2.heap.size ≤ wr.heap.size := HQ.out.2.but.size
            have hDr : D < wr.heap.size := HQ.out.2.lt
            have HW : Hid (Rnd L D t wr wr) := Lib.hid ⟨But.refl _ _, HQ.out.2.dice⟩
            have HO3 : Hid (Row (wr.alloc (.cells #[.int .i64 1, .int .i64 0, .int .i64 4] 3)) (some ⟨wr.heap.size, 0, none⟩) 3 3 1 (intsV [1, 0, 4])) := Lib.hid (Row.of_block (heap_alloc_new _ _) rfl)
            have HS1 := Lib.hid (HW.out.later (one_new wr (.cells #[.int .i64 1, .int .i64 0, .int .i64 4] 3)))
            go_wp2_with fail
            clear hm2
            refine (of_g L D t (some ⟨wr.heap.size, 0, none⟩) 3 3 [1, 0, 4] _ HS1.out.dice HO3.out (fun ad e => by injection e with e; rw [← e]; show wr.heap.size ≠ D; omega) (by omega) (by omega)).mono ?_
            rintro e x1 ⟨dv, rfl, hdv, hg⟩
            have hdv0 : 0 ≤ dv ∧ dv ≤ 4 := by
              simp only [List.mem_cons, List.not_mem_nil, or_false] at hdv
              omega
            have hdv1 := hdv0.1; have hdv2 := hdv0.2
            have HS2 := Lib.hid (HS1.out.gave hg)
            clear hg HS1 HO3 hdv hdv0
            have hs0 : 0 ≤ tm + dv := by omega
            have hs1 : tm + dv ≤ 1000 := by have := HN.out; omega
            have hs2 : tm + dv + 4 * ((m - 1 : Nat) : Int) ≤ 4 * (N : Int) := by omega
            have HO6 : Hid (Row (x1.alloc (.cells #[.int .i64 1, .int .i64 1, .int .i64 2, .int .i64 1, .int .i64 2, .int .i64 10] 3)) (some ⟨x1.heap.size, 0, none⟩) 6 6 1 (intsV [1, 1, 2, 1, 2, 10])) := Lib.hid (Row.of_block (heap_alloc_new _ _) rfl)
            have HS3 := Lib.hid (HS2.out.later (one_new x1 (.cells #[.int .i64 1, .int .i64 1, .int .i64 2, .int .i64 1, .int .i64 2, .int .i64 10] 3)))
            have hDx : D < x1.heap.size := HS2.out.lt
            go_wp2_with fail
            generalize hT : tm + dv = T at *
            refine (of_g L D t (some ⟨x1.heap.size, 0, none⟩) 6 6 [1, 1, 2, 1, 2, 10] _ HS3.out.dice HO6.out (fun ad e => by injection e with e; rw [← e]; show x1.heap.size ≠ D; omega) (by omega) (by omega)).mono ?_
            rintro e x2 ⟨kv, rfl, hkv, hg⟩
            have hk3 : kv = 1 ∨ kv = 2 ∨ kv = 10 := by
              simp only [List.mem_cons, List.not_mem_nil, or_false] at hkv
              omega
            have HS4 := Lib.hid (HS3.out.gave hg)
            clear hg HS3 HO6 hkv HS2 hDx hdv1 hdv2 hT
            go_upto_region 15 with (refine wpList_store_new rfl 34 (.tmp 9) (.tmp 38) rfl 34 _ (bareP10 T kv 0 0 0).arr rfl rfl (bareP10 T kv 0 0 0).info rfl (bareP10 T kv 0 0 0).one ?_)
            have HNW := Lib.hid (one_new x2 (.cells (bareP10 T kv 0 0 0).arr 34))
            have HG : Hid ((x2.alloc (.cells (bareP10 T kv 0 0 0).arr 34)).heap[x2.heap.size]? = some (.cells (bareP10 T kv 0 0 0).arr 34 (0, 0))) := Lib.hid (heap_alloc_new _ _)
            have HS5 := Lib.hid (HS4.out.later HNW.out)
            have hgw : wr.heap.size ≤ x2.heap.size := HS4.out.but.size
            clear HNW HS4
            generalize x2.alloc (.cells (bareP10 T kv 0 0 0).arr 34) = x3 at *
            generalize x2.heap.size = g at *
            have hc4 : x3.cell? ⟨g, 4, none⟩ = some (.int .i64 kv) := (cell_of_row _ _ 4 _ _ _ HG.out).trans rfl
            go_upto_block 4 with fail
            have hDg : D < g := by omega
            try simp only [Act.put]
            go_cut [] (fun wx => Hid (DrM L D t wr g T wx))
            case first =>
              rcases hk3 with rfl | rfl | rfl
              · go_wp2_with fail
                clear hc4
                refine (next_g L D t 2 x3 HS5.out.dice (by omega) (by omega)).mono ?_
                rintro e x4 ⟨v1, rfl, hv10, hv11, hg⟩
                have HS6 := Lib.hid (HS5.out.gave hg); replace HG := Lib.hid ((hg.2.block g (Array.getElem?_eq_some_iff.1 HG.out).1 (by omega)).trans HG.out)
                clear hg HS5
                go_wp2_with fail
                refine (next_g L D t 3 x4 HS6.out.dice (by omega) (by omega)).mono ?_
                rintro e x5 ⟨v2, rfl, hv20, hv21, hg⟩
                have HS7 := Lib.hid (HS6.out.gave hg); replace HG := Lib.hid ((hg.2.block g (Array.getElem?_eq_some_iff.1 HG.out).1 (by omega)).trans HG.out)
                clear hg HS6
                have HO7 : Hid (Row (x5.alloc (.cells #[.int .i64 20, .int .i64 3, .int .i64 0] 3)) (some ⟨x5.heap.size, 0, none⟩) 3 3 1 (intsV [20, 3, 0])) := Lib.hid (Row.of_block (heap_alloc_new _ _) rfl)
                have HN7 := Lib.hid (one_new x5 (.cells #[.int .i64 20, .int .i64 3, .int .i64 0] 3))
                have HS8 := Lib.hid (HS7.out.later HN7.out)
                have hD5 : D < x5.heap.size := HS7.out.lt
                replace HG := Lib.hid ((HN7.out.block g (Array.getElem?_eq_some_iff.1 HG.out).1).trans HG.out)
                clear HS7 HN7
                go_wp2_with fail
                refine (of_g L D t (some ⟨x5.heap.size, 0, none⟩) 3 3 [20, 3, 0] _ HS8.out.dice HO7.out (fun ad e => by injection e with e; rw [← e]; show x5.heap.size ≠ D; omega) (by omega) (by omega)).mono ?_
                rintro e x6 ⟨v3, rfl, hv3, hg⟩
                have hv30 : 0 ≤ v3 ∧ v3 ≤ 20 := by
                  simp only [List.mem_cons, List.not_mem_nil, or_false] at hv3
                  omega
                have HS9 := Lib.hid (HS8.out.gave hg); replace HG := Lib.hid ((hg.2.block g (Array.getElem?_eq_some_iff.1 HG.out).1 (by omega)).trans HG.out)
                clear hg HS8
                clear HO7 hv3
                have hc5 : x6.cell? ⟨g, 5, none⟩ = some (.int .i64 0) := (cell_of_row _ _ 5 _ _ _ HG.out).trans rfl
                have hf5 : x6.frozen? ⟨g, 5, none⟩ = false := frozen_of_row _ _ _ _ _ HG.out
                have hc6 : x6.cell? ⟨g, 6, none⟩ = some (.int .i64 0) := (cell_of_row _ _ 6 _ _ _ HG.out).trans rfl
                have hf6 : x6.frozen? ⟨g, 6, none⟩ = false := frozen_of_row _ _ _ _ _ HG.out
                have hc7 : x6.cell? ⟨g, 7, none⟩ = some (.int .i64 0) := (cell_of_row _ _ 7 _ _ _ HG.out).trans rfl
                have hf7 : x6.frozen? ⟨g, 7, none⟩ = false := frozen_of_row _ _ _ _ _ HG.out
                have hv31 := hv30.1; have hv32 := hv30.2
                clear hv30
                go_wp2_with fail
                go_meet
                refine ⟨rnd_set (rnd_set (rnd_set HS9.out hgw hDr) hgw hDr) hgw hDr, hgw, 1, 1 - (a : Int) + 2 * v1, 1 + v2, T + v3, by rw [cur_set (cur_set (cur_set HG.out))]; rfl⟩
              · go_wp2_with fail
                clear hc4
                refine (next_g L D t 6 x3 HS5.out.dice (by omega) (by omega)).mono ?_
                rintro e x4 ⟨v1, rfl, hv10, hv11, hg⟩
                have HS6 := Lib.hid (HS5.out.gave hg); replace HG := Lib.hid ((hg.2.block g (Array.getElem?_eq_some_iff.1 HG.out).1 (by omega)).trans HG.out)
                clear hg HS5
                have hc5 : x4.cell? ⟨g, 5, none⟩ = some (.int .i64 0) := (cell_of_row _ _ 5 _ _ _ HG.out).trans rfl
                have hf5 : x4.frozen? ⟨g, 5, none⟩ = false := frozen_of_row _ _ _ _ _ HG.out
                go_wp2_with fail
                go_meet
                exact ⟨rnd_set HS6.out hgw hDr, hgw, 2, v1, 0, 0, by rw [cur_set HG.out]; rfl⟩
              · go_wp2_with fail
                go_meet
                exact ⟨HS5.out, hgw, 10, 0, 0, 0, HG.out⟩
            case rest =>
              have SD : Hid (DrM L D t wr g T wc) := hcut
              clear hcut HS5 HG hk3 hc4
              by_cases hm1 : m = 1
              · have b1 : ((m : Int) == 1) = true := by rw [hm1]; rfl
                have b2 : (m == 1) = true := by rw [hm1]; rfl
                go_wp2_with fail
                refine (one_g L D t 4 wc SD.out.1.dice (by omega) (by omega)).mono ?_
                rintro e xx ⟨rb, rfl, hg⟩
                replace SD := Lib.hid (SD.out.gave hg hDr)
                clear hg
                cases rb
                · go_upto_region 22 with fail
                  clear b1 b2
                  obtain ⟨hrd, -, kk, aa, bb, cc, hcur⟩ := SD.out
                  have HRD := Lib.hid hrd; have HG := Lib.hid hcur
                  clear hrd hcur SD
                  have HLW := Lib.hid (HQ.out.1.but HRD.out.but hDw2)
                  have HLR : Hid (LRow xx A2 c'.length c2 c') := Lib.hid (by obtain ⟨A5, c5, hv5, hr5⟩ := HLW.out.own.row; injection hv5 with h1 _ h3; subst h1 h3; exact hr5)
                  have hcl : c'.length ≤ 100 := by have := HN.out; omega
                  have hm8 : m ≤ 8 := by have := HN.out; omega
                  have HRNX := Lib.hid (nextP_any (a : Int) A2 c'.length c2 c' (bareP10 T kk aa bb cc) xx HLR.out (by omega) HLW.out.small (bareP10_ok _ _ _ _ _ _) (bareD_small _ _ _ _ _))
                  have HSN := Lib.hid (nextP_small (au := (a : Int)) (l := c'.map (·.s)) (bareD_small T kk aa bb cc))
                  have HCG : Hid ((nextP (a : Int) (c'.map (·.s)) (bareP10 T kk aa bb cc).s).2 = 0 → Ch (a : Int) (c'.map (·.s) ++ [(nextP (a : Int) (c'.map (·.s)) (bareP10 T kk aa bb cc).s).1])) := Lib.hid fun h => HCH.out.given h
                  change Hid (Small (nextP (a : Int) (c'.map (·.s)) (bareP10 T kk aa bb cc).s).1) at HSN
                  generalize nextP (a : Int) (c'.map (·.s)) (bareP10 T kk aa bb cc).s = NX at HRNX HSN HCG
                  clear HLR
                  generalize bareP10 T kk aa bb cc = p at *
                  go_wp2_with (refine wpList_load_row rfl 34 (.tmp 9) rfl g rfl 34 p.arr (0, 0) _ HG.out Try.underlying34 rfl p.info ?_)
                  refine HRNX.out.mono ?_
                  clear HRNX
                  rintro e y1 ⟨q, rfl, hqs, hqo, hna, hnb, hb⟩
                  have HS1 := Lib.hid (HRD.out.later hb)
                  have HQE := Lib.hid hqs
                  have HQO := Lib.hid hqo
                  have hxw : w2.heap.size ≤ xx.heap.size := Nat.le_trans hwr HRD.out.but.size
                  have HQH : Hid (Hi w2.heap.size q) := Lib.hid ⟨fun ad e => Nat.le_trans hxw (hna ad e), fun ad e => Nat.le_trans hxw (hnb ad e)⟩
                  have HCL := Lib.hid (clear_new (q := q) hna hnb (own_lt HLW.out.own.own))
                  have HL1 : Hid (LGot y1 w2.heap.size (.slice A2 c'.length c2) c') := Lib.hid (HLW.out.but (But.of (D := D) hb) hDw2)
                  clear hqs hqo hna hnb hb HLW HG HRD
                  go_upto_region 23 with (refine wpList_store_new rfl 34 (.tmp 10) (.tmp 78) rfl 34 _ q.arr rfl rfl q.info rfl q.one ?_)
                  have HNW := Lib.hid (one_new y1 (.cells q.arr 34))
                  have HG8 : Hid ((y1.alloc (.cells q.arr 34)).heap[y1.heap.size]? = some (.cells q.arr 34 (0, 0))) := Lib.hid (heap_alloc_new _ _)
                  have HS2 := Lib.hid (HS1.out.later HNW.out)
                  have HLL2 : Hid (LGot (y1.alloc (.cells q.arr 34)) w2.heap.size (.slice A2 c'.length c2) c') := Lib.hid (HL1.out.but (But.of (D := D) HNW.out) hDw2)
                  replace HQO := Lib.hid (HQO.out.later HNW.out)
                  clear HS1 HNW HL1
                  generalize y1.alloc (.cells q.arr 34) = y2 at *
                  generalize y1.heap.size = g8 at *
                  obtain ⟨ns, er⟩ := NX
                  by_cases her : er = 0
                  · have b3 : (er == 0) = true := by rw [her]; rfl
                    have HC2 : Hid (Ch (a : Int) ((c' ++ [q]).map (·.s))) := Lib.hid (by rw [List.map_append, List.map_cons, List.map_nil, HQE.out]; exact HCG.out her)
                    clear her
                    have hvs : q.arr.size = 13 := rfl
                    go_wp2_with (first | (refine wpList_load_row rfl 34 (.tmp 10) rfl g8 rfl 34 q.arr (0, 0) _ HG8.out Try.underlying34 rfl q.info ?_) | (at_builtin; (first | rw [fold13] | (rw [← hvs, fold13])); go_must (refine wpList_app_newK y2 rfl (.tmp 82) (.tmp 84) 27 34 rfl w2.heap.size Try.underlying27 stm_info rfl _ c'.length (plsC c') HLL2.out.own.own rfl 1 q.arr rfl q.ones rfl rfl (by unfold maxLen; omega) (by omega) (Nat.le_trans hwr HS2.out.but.size) ?_); intro x3 z3 ho hb hk1 hk2; rw [show q.arr.toList = plsC [q] from rfl] at ho; have HO3 := Lib.hid (HLL2.out.own.app (m := [q]) (fun s hs => by rw [List.mem_singleton.1 hs]; exact ⟨HQO.out, HCL.out⟩) ho hk1 hk2); have HB3 := Lib.hid hb; clear ho hb hk1 hk2))
                    have HGT : Hid (LGot z3 w2.heap.size x3 (c' ++ [q])) := Lib.hid ⟨HO3.out, fun s hs => by
                      rcases List.mem_append.1 hs with hs | hs
                      · exact HLL2.out.hi s hs
                      · rw [List.mem_singleton.1 hs]; exact HQH.out, fun s hs => by
                      rcases List.mem_append.1 hs with hs | hs
                      · exact HLL2.out.small s hs
                      · rw [List.mem_singleton.1 hs, HQE.out]; exact HSN.out⟩
                    have HRT : Hid (Rnd L D t w2 z3) := Lib.hid ⟨(HQ.out.2.but.trans HS2.out.but).grow HB3.out, by obtain ⟨k, hk⟩ := HS2.out.dice; exact ⟨k, hk.below HB3.out hDw2⟩⟩
                    go_roundg (m - 1)
                    case measure => omega
                    case rel => exact ⟨m - 1, T, c' ++ [q], by go_num, Nat.le_refl _, rfl, hs0, hs2, by rw [List.length_append]; show c'.length + 1 + (m - 1) ≤ N; omega, Lib.hid ⟨HGT.out, HRT.out⟩, HC2⟩
                  · have b3 : (er == 0) = false := by rw [beq_eq_false_iff_ne]; exact her
                    clear her
                    go_wp2_with fail
                    go_roundg (m - 1)
                    case measure => omega
                    case rel => exact ⟨m - 1, T, c', by go_num, Nat.le_refl _, rfl, hs0, hs2, by omega, Lib.hid ⟨HLL2.out, HQ.out.2.but.trans HS2.out.but, HS2.out.dice⟩, HCH⟩
                · obtain ⟨k0, a0, b0, c0, hcur0⟩ := SD.out.2.2
                  have HG0 := Lib.hid hcur0
                  clear hcur0
                  go_upto_region 22 with (refine wpList_store_row rfl 34 (.tmp 9) (.tmp 72) rfl g (bareP10 T 3 0 0 0).arr rfl rfl 34 _ HG0.out (bareP10 T 3 0 0 0).info rfl (bareP10 T 3 0 0 0).one ?_)
                  clear b1 b2
                  have SD2 : Hid (DrM L D t wr g T (xx.setRow g (bareP10 T 3 0 0 0).arr)) := Lib.hid ⟨SD.out.1.row g hgw hDr _, hgw, 3, 0, 0, 0, setRow_heap xx g _ _ _ _ HG0.out⟩
                  clear SD HG0
                  have SD := SD2
                  clear SD2
                  generalize xx.setRow g (bareP10 T 3 0 0 0).arr = xx at *
                  obtain ⟨hrd, -, kk, aa, bb, cc, hcur⟩ := SD.out
                  have HRD := Lib.hid hrd; have HG := Lib.hid hcur
                  clear hrd hcur SD
                  have HLW := Lib.hid (HQ.out.1.but HRD.out.but hDw2)
                  have HLR : Hid (LRow xx A2 c'.length c2 c') := Lib.hid (by obtain ⟨A5, c5, hv5, hr5⟩ := HLW.out.own.row; injection hv5 with h1 _ h3; subst h1 h3; exact hr5)
                  have hcl : c'.length ≤ 100 := by have := HN.out; omega
                  have hm8 : m ≤ 8 := by have := HN.out; omega
                  have HRNX := Lib.hid (nextP_any (a : Int) A2 c'.length c2 c' (bareP10 T kk aa bb cc) xx HLR.out (by omega) HLW.out.small (bareP10_ok _ _ _ _ _ _) (bareD_small _ _ _ _ _))
                  have HSN := Lib.hid (nextP_small (au := (a : Int)) (l := c'.map (·.s)) (bareD_small T kk aa bb cc))
                  have HCG : Hid ((nextP (a : Int) (c'.map (·.s)) (bareP10 T kk aa bb cc).s).2 = 0 → Ch (a : Int) (c'.map (·.s) ++ [(nextP (a : Int) (c'.map (·.s)) (bareP10 T kk aa bb cc).s).1])) := Lib.hid fun h => HCH.out.given h
                  change Hid (Small (nextP (a : Int) (c'.map (·.s)) (bareP10 T kk aa bb cc).s).1) at HSN
                  generalize nextP (a : Int) (c'.map (·.s)) (bareP10 T kk aa bb cc).s = NX at HRNX HSN HCG
                  clear HLR
                  generalize bareP10 T kk aa bb cc = p at *
                  go_wp2_with (refine wpList_load_row rfl 34 (.tmp 9) rfl g rfl 34 p.arr (0, 0) _ HG.out Try.underlying34 rfl p.info ?_)
                  refine HRNX.out.mono ?_
                  clear HRNX
                  rintro e y1 ⟨q, rfl, hqs, hqo, hna, hnb, hb⟩
                  have HS1 := Lib.hid (HRD.out.later hb)
                  have HQE := Lib.hid hqs
                  have HQO := Lib.hid hqo
                  have hxw : w2.heap.size ≤ xx.heap.size := Nat.le_trans hwr HRD.out.but.size
                  have HQH : Hid (Hi w2.heap.size q) := Lib.hid ⟨fun ad e => Nat.le_trans hxw (hna ad e), fun ad e => Nat.le_trans hxw (hnb ad e)⟩
                  have HCL := Lib.hid (clear_new (q := q) hna hnb (own_lt HLW.out.own.own))
                  have HL1 : Hid (LGot y1 w2.heap.size (.slice A2 c'.length c2) c') := Lib.hid (HLW.out.but (But.of (D := D) hb) hDw2)
                  clear hqs hqo hna hnb hb HLW HG HRD
                  go_upto_region 23 with (refine wpList_store_new rfl 34 (.tmp 10) (.tmp 78) rfl 34 _ q.arr rfl rfl q.info rfl q.one ?_)
                  have HNW := Lib.hid (one_new y1 (.cells q.arr 34))
                  have HG8 : Hid ((y1.alloc (.cells q.arr 34)).heap[y1.heap.size]? = some (.cells q.arr 34 (0, 0))) := Lib.hid (heap_alloc_new _ _)
                  have HS2 := Lib.hid (HS1.out.later HNW.out)
                  have HLL2 : Hid (LGot (y1.alloc (.cells q.arr 34)) w2.heap.size (.slice A2 c'.length c2) c') := Lib.hid (HL1.out.but (But.of (D := D) HNW.out) hDw2)
                  replace HQO := Lib.hid (HQO.out.later HNW.out)
                  clear HS1 HNW HL1
                  generalize y1.alloc (.cells q.arr 34) = y2 at *
                  generalize y1.heap.size = g8 at *
                  obtain ⟨ns, er⟩ := NX
                  by_cases her : er = 0
                  · have b3 : (er == 0) = true := by rw [her]; rfl
                    have HC2 : Hid (Ch (a : Int) ((c' ++ [q]).map (·.s))) := Lib.hid (by rw [List.map_append, List.map_cons, List.map_nil, HQE.out]; exact HCG.out her)
                    clear her
                    have hvs : q.arr.size = 13 := rfl
                    go_wp2_with (first | (refine wpList_load_row rfl 34 (.tmp 10) rfl g8 rfl 34 q.arr (0, 0) _ HG8.out Try.underlying34 rfl q.info ?_) | (at_builtin; (first | rw [fold13] | (rw [← hvs, fold13])); go_must (refine wpList_app_newK y2 rfl (.tmp 82) (.tmp 84) 27 34 rfl w2.heap.size Try.underlying27 stm_info rfl _ c'.length (plsC c') HLL2.out.own.own rfl 1 q.arr rfl q.ones rfl rfl (by unfold maxLen; omega) (by omega) (Nat.le_trans hwr HS2.out.but.size) ?_); intro x3 z3 ho hb hk1 hk2; rw [show q.arr.toList = plsC [q] from rfl] at ho; have HO3 := Lib.hid (HLL2.out.own.app (m := [q]) (fun s hs => by rw [List.mem_singleton.1 hs]; exact ⟨HQO.out, HCL.out⟩) ho hk1 hk2); have HB3 := Lib.hid hb; clear ho hb hk1 hk2))
                    have HGT : Hid (LGot z3 w2.heap.size x3 (c' ++ [q])) := Lib.hid ⟨HO3.out, fun s hs => by
                      rcases List.mem_append.1 hs with hs | hs
                      · exact HLL2.out.hi s hs
                      · rw [List.mem_singleton.1 hs]; exact HQH.out, fun s hs => by
                      rcases List.mem_append.1 hs with hs | hs
                      · exact HLL2.out.small s hs
                      · rw [List.mem_singleton.1 hs, HQE.out]; exact HSN.out⟩
                    have HRT : Hid (Rnd L D t w2 z3) := Lib.hid ⟨(HQ.out.2.but.trans HS2.out.but).grow HB3.out, by obtain ⟨k, hk⟩ := HS2.out.dice; exact ⟨k, hk.below HB3.out hDw2⟩⟩
                    go_roundg (m - 1)
                    case measure => omega
                    case rel => exact ⟨m - 1, T, c' ++ [q], by go_num, Nat.le_refl _, rfl, hs0, hs2, by rw [List.length_append]; show c'.length + 1 + (m - 1) ≤ N; omega, Lib.hid ⟨HGT.out, HRT.out⟩, HC2⟩
                  · have b3 : (er == 0) = false := by rw [beq_eq_false_iff_ne]; exact her
                    clear her
                    go_wp2_with fail
                    go_roundg (m - 1)
                    case measure => omega
                    case rel => exact ⟨m - 1, T, c', by go_num, Nat.le_refl _, rfl, hs0, hs2, by omega, Lib.hid ⟨HLL2.out, HQ.out.2.but.trans HS2.out.but, HS2.out.dice⟩, HCH⟩
              · have b1 : ((m : Int) == 1) = false := by rw [beq_eq_false_iff_ne]; omega
                have b2 : (m == 1) = false := by rw [beq_eq_false_iff_ne]; exact hm1
                go_upto_region 22 with fail
                clear b1 b2
                rename World => xx
                obtain ⟨hrd, -, kk, aa, bb, cc, hcur⟩ := SD.out
                have HRD := Lib.hid hrd; have HG := Lib.hid hcur
                clear hrd hcur SD
                have HLW := Lib.hid (HQ.out.1.but HRD.out.but hDw2)
                have HLR : Hid (LRow xx A2 c'.length c2 c') := Lib.hid (by obtain ⟨A5, c5, hv5, hr5⟩ := HLW.out.own.row; injection hv5 with h1 _ h3; subst h1 h3; exact hr5)
                have hcl : c'.length ≤ 100 := by have := HN.out; omega
                have hm8 : m ≤ 8 := by have := HN.out; omega
                have HRNX := Lib.hid (nextP_any (a : Int) A2 c'.length c2 c' (bareP10 T kk aa bb cc) xx HLR.out (by omega) HLW.out.small (bareP10_ok _ _ _ _ _ _) (bareD_small _ _ _ _ _))
                have HSN := Lib.hid (nextP_small (au := (a : Int)) (l := c'.map (·.s)) (bareD_small T kk aa bb cc))
                have HCG : Hid ((nextP (a : Int) (c'.map (·.s)) (bareP10 T kk aa bb cc).s).2 = 0 → Ch (a : Int) (c'.map (·.s) ++ [(nextP (a : Int) (c'.map (·.s)) (bareP10 T kk aa bb cc).s).1])) := Lib.hid fun h => HCH.out.given h
                change Hid (Small (nextP (a : Int) (c'.map (·.s)) (bareP10 T kk aa bb cc).s).1) at HSN
                generalize nextP (a : Int) (c'.map (·.s)) (bareP10 T kk aa bb cc).s = NX at HRNX HSN HCG
                clear HLR
                generalize bareP10 T kk aa bb cc = p at *
                go_wp2_with (refine wpList_load_row rfl 34 (.tmp 9) rfl g rfl 34 p.arr (0, 0) _ HG.out Try.underlying34 rfl p.info ?_)
                refine HRNX.out.mono ?_
                clear HRNX
                rintro e y1 ⟨q, rfl, hqs, hqo, hna, hnb, hb⟩
                have HS1 := Lib.hid (HRD.out.later hb)
                have HQE := Lib.hid hqs
                have HQO := Lib.hid hqo
                have hxw : w2.heap.size ≤ xx.heap.size := Nat.le_trans hwr HRD.out.but.size
                have HQH : Hid (Hi w2.heap.size q) := Lib.hid ⟨fun ad e => Nat.le_trans hxw (hna ad e), fun ad e => Nat.le_trans hxw (hnb ad e)⟩
                have HCL := Lib.hid (clear_new (q := q) hna hnb (own_lt HLW.out.own.own))
                have HL1 : Hid (LGot y1 w2.heap.size (.slice A2 c'.length c2) c') := Lib.hid (HLW.out.but (But.of (D := D) hb) hDw2)
                clear hqs hqo hna hnb hb HLW HG HRD
                go_upto_region 23 with (refine wpList_store_new rfl 34 (.tmp 10) (.tmp 78) rfl 34 _ q.arr rfl rfl q.info rfl q.one ?_)
                have HNW := Lib.hid (one_new y1 (.cells q.arr 34))
                have HG8 : Hid ((y1.alloc (.cells q.arr 34)).heap[y1.heap.size]? = some (.cells q.arr 34 (0, 0))) := Lib.hid (heap_alloc_new _ _)
                have HS2 := Lib.hid (HS1.out.later HNW.out)
                have HLL2 : Hid (LGot (y1.alloc (.cells q.arr 34)) w2.heap.size (.slice A2 c'.length c2) c') := Lib.hid (HL1.out.but (But.of (D := D) HNW.out) hDw2)
                replace HQO := Lib.hid (HQO.out.later HNW.out)
                clear HS1 HNW HL1
                generalize y1.alloc (.cells q.arr 34) = y2 at *
                generalize y1.heap.size = g8 at *
                obtain ⟨ns, er⟩ := NX
                by_cases her : er = 0
                · have b3 : (er == 0) = true := by rw [her]; rfl
                  have HC2 : Hid (Ch (a : Int) ((c' ++ [q]).map (·.s))) := Lib.hid (by rw [List.map_append, List.map_cons, List.map_nil, HQE.out]; exact HCG.out her)
                  clear her
                  have hvs : q.arr.size = 13 := rfl
                  go_wp2_with (first | (refine wpList_load_row rfl 34 (.tmp 10) rfl g8 rfl 34 q.arr (0, 0) _ HG8.out Try.underlying34 rfl q.info ?_) | (at_builtin; (first | rw [fold13] | (rw [← hvs, fold13])); go_must (refine wpList_app_newK y2 rfl (.tmp 82) (.tmp 84) 27 34 rfl w2.heap.size Try.underlying27 stm_info rfl _ c'.length (plsC c') HLL2.out.own.own rfl 1 q.arr rfl q.ones rfl rfl (by unfold maxLen; omega) (by omega) (Nat.le_trans hwr HS2.out.but.size) ?_); intro x3 z3 ho hb hk1 hk2; rw [show q.arr.toList = plsC [q] from rfl] at ho; have HO3 := Lib.hid (HLL2.out.own.app (m := [q]) (fun s hs => by rw [List.mem_singleton.1 hs]; exact ⟨HQO.out, HCL.out⟩) ho hk1 hk2); have HB3 := Lib.hid hb; clear ho hb hk1 hk2))
                  have HGT : Hid (LGot z3 w2.heap.size x3 (c' ++ [q])) := Lib.hid ⟨HO3.out, fun s hs => by
                    rcases List.mem_append.1 hs with hs | hs
                    · exact HLL2.out.hi s hs
                    · rw [List.mem_singleton.1 hs]; exact HQH.out, fun s hs => by
                    rcases List.mem_append.1 hs with hs | hs
                    · exact HLL2.out.small s hs
                    · rw [List.mem_singleton.1 hs, HQE.out]; exact HSN.out⟩
                  have HRT : Hid (Rnd L D t w2 z3) := Lib.hid ⟨(HQ.out.2.but.trans HS2.out.but).grow HB3.out, by obtain ⟨k, hk⟩ := HS2.out.dice; exact ⟨k, hk.below HB3.out hDw2⟩⟩
                  go_roundg (m - 1)
                  case measure => omega
                  case rel => exact ⟨m - 1, T, c' ++ [q], by go_num, Nat.le_refl _, rfl, hs0, hs2, by rw [List.length_append]; show c'.length + 1 + (m - 1) ≤ N; omega, Lib.hid ⟨HGT.out, HRT.out⟩, HC2⟩
                · have b3 : (er == 0) = false := by rw [beq_eq_false_iff_ne]; exact her
                  clear her
                  go_wp2_with fail
                  go_roundg (m - 1)
                  case measure => omega
                  case rel => exact ⟨m - 1, T, c', by go_num, Nat.le_refl _, rfl, hs0, hs2, by omega, Lib.hid ⟨HLL2.out, HQ.out.2.but.trans HS2.out.but, HS2.out.dice⟩, HCH⟩
          · have hm2 : ¬ (0 : Int) < (m : Int) := by omega
            have HL3 := Lib.hid (HL2.out.but HQ.out.2.but hDw); have HR3 := Lib.hid (HR2.out.but.trans HQ.out.2.but); have HC3 := Lib.hid HQ.out.1; have HDI := Lib.hid HQ.out.2.dice
            have hw12 : w1.heap.size ≤ w2.heap.size := HR2.out.but.size
            have hw13 : w1.heap.size ≤ wr.heap.size := HR3.out.size
            have HCR : Hid (LRow wr A2 c'.length c2 c') := Lib.hid (by obtain ⟨A5, c5, hv5, hr5⟩ := HQ.out.1.own.row; injection hv5 with h1 _ h3; subst h1 h3; exact hr5)
            have HCL : Hid (∀ p ∈ c', PlOk wr p ∧ Clear (.slice A1 l'.length c1) p) := Lib.hid fun p hp => ⟨HCR.out.ok p hp, clear_new (w := w2) (q := p) (HC3.out.hi p hp).1 (HC3.out.hi p hp).2 (own_lt HL2.out.own.own)⟩
            have hle : l'.length + c'.length ≤ 100 := by have := HN.out; omega
            have hll2 : l'.length ≤ 100 := by omega
            clear HQ
            go_wp2_with (at_builtin; go_must (refine wpList_app2 wr rfl (.tmp 86) (.tmp 87) 27 27 34 rfl w1.heap.size Try.underlying27 stm_info rfl _ l'.length (plsC l') HL3.out.own.own rfl _ c'.length (plsC c') (Row.src HCR.out.row Try.underlying27 (plsC_one _)) rfl (by unfold maxLen; omega) (by omega) hw13 ?_); intro v4 z4 ho hb hkp hv; have HO4 := Lib.hid (HL3.out.own.app (m := c') HCL.out ho hkp hv); have HB4 := Lib.hid hb; clear ho hb hkp hv)
            have HGT : Hid (LGot z4 w1.heap.size v4 (l' ++ c')) := Lib.hid ⟨HO4.out, fun s hs => by
              rcases List.mem_append.1 hs with hs | hs
              · exact HL3.out.hi s hs
              · exact (HC3.out.hi s hs).mono hw12, fun s hs => by
              rcases List.mem_append.1 hs with hs | hs
              · exact HL3.out.small s hs
              · exact HC3.out.small s hs⟩
            have HRT : Hid (Rnd L D t w1 z4) := Lib.hid ⟨HR3.out.grow HB4.out, by obtain ⟨k, hk⟩ := HDI.out; exact ⟨k, hk.below HB4.out hDw⟩⟩
            have HOA : Hid (Ord10 ((l' ++ c').map (·.s)) ∧ ∀ s ∈ (l' ++ c').map (·.s), s.author < ((a + 1 : Nat) : Int)) := Lib.hid (by
              rw [List.map_append]
              refine ⟨HOL.out.1.app HCH.out.ord10 fun x hx y hy => ?_, fun s hs => ?_⟩
              · rw [(HCH.out.mem hy).1]; exact HOL.out.2 x hx
              · rcases List.mem_append.1 hs with hs | hs
                · have := HOL.out.2 s hs; omega
                · rw [(HCH.out.mem hs).1]; omega)
            go_roundg (2 - (a + 1))
            case measure => omega
            case rel => exact ⟨a + 1, l' ++ c', by go_num, by omega, Nat.le_refl _, by rw [List.length_append]; have := HN.out; omega, Lib.hid ⟨HGT.out, HRT.out⟩, HOA⟩
      · have hlt2 : ¬ (a : Int) < 2 := by omega
        go_wp2_with fail
        rename World => w3
        clear hlt2
        have hlen : l'.length ≤ 100000 := by omega
        have HO := Lib.hid HOL.out.1
        go_loopg [12] 30 (fun gk i12 wr => ∃ tm : Int, i12 = .int .i64 tm ∧ 0 ≤ tm ∧ tm ≤ 40 ∧ 30 - tm.toNat ≤ gk ∧ Hid (LGot wr w1.heap.size (.slice A1 l'.length c1) l' ∧ Rnd L D t w1 wr))
        case atStart => exact ⟨0, rfl, by omega, by omega, by omega, HQ⟩
        case round =>
          clear HQ
          obtain ⟨tm, rfl, htm0, htm1, hgk2, HQ⟩ := hrel
          by_cases hlt : tm < 30
          · go_wp2_with fail
            refine (next_g L D t 2 wr HQ.out.2.dice (by omega) (by omega)).mono ?_
            rintro e wn0 ⟨x0, rfl, -, -, hg⟩
            have HL3 := Lib.hid (HQ.out.1.but hg.2 hDw); have HR3 := Lib.hid (HQ.out.2.gave hg)
            clear hg HQ
            go_wp2_with fail
            refine (next_g L D t 4 wn0 HR3.out.dice (by omega) (by omega)).mono ?_
            rintro e wn1 ⟨x1, rfl, -, -, hg⟩
            have HL4 := Lib.hid (HL3.out.but hg.2 hDw); have HR4 := Lib.hid (HR3.out.gave hg)
            clear hg HL3 HR3
            have HLR : Hid (LRow wn1 A1 l'.length c1 l') := Lib.hid (by obtain ⟨A5, c5, hv5, hr5⟩ := HL4.out.own.row; injection hv5 with h1 _ h3; subst h1 h3; exact hr5)
            go_wp2_with fail
            refine (agree10_any H A1 l'.length c1 l' x0 x1 tm wn1 HLR.out hlen HO.out).mono ?_
            rintro e wz ⟨rfl, hb⟩
            have HL5 : Hid (LGot wz w1.heap.size (.slice A1 l'.length c1) l') := Lib.hid (HL4.out.but (But.of (D := D) hb) hDw)
            have HR5 := Lib.hid (HR4.out.later hb)
            clear hb HL4 HR4 HLR
            go_wp2_with fail
            refine (next_g L D t 4 wz HR5.out.dice (by omega) (by omega)).mono ?_
            rintro e wn2 ⟨x2, rfl, hx0, hx1, hg⟩
            have HL6 := Lib.hid (HL5.out.but hg.2 hDw); have HR6 := Lib.hid (HR5.out.gave hg)
            clear hg HL5 HR5
            go_wp2_with fail
            go_roundg (30 - (tm + (1 + x2)).toNat)
            case measure => omega
            case rel => exact ⟨tm + (1 + x2), rfl, by omega, by omega, Nat.le_refl _, Lib.hid ⟨HL6.out, HR6.out⟩⟩
          · go_wp2_with fail
            refine (HAW.out wr).mono ?_
            rintro e wz ⟨rfl, hbz⟩
            have HBW := Lib.hid (HB.out.trans (HQ.out.2.but.below (by have := HDD.out; omega) HB.out.size))
            have HBZ := Lib.hid (HBW.out.trans (hbz.mono HBW.out.size))
            clear hbz
            go_wp2_with fail
            go_ret
            exact ⟨rfl, HBZ.out⟩
  · have gd : decide (tn ≤ 400) = false := decide_eq_false hn
    go_wp2_with fail
    clear gd
    refine (HAW.out w).mono ?_
    rintro e w1 ⟨rfl, hb⟩
    have HB := Lib.hid hb; clear hb
    go_wp2_with fail
    go_ret
    exact ⟨rfl, HB.out⟩
end Go.Proofs.Ytjmapbaofpilaaa
/- What a law's arguments are as rows of cells; what is asked of them behind the call. Plain facts over any program. -/
namespace Go.Proofs.Ytjmapbaofpilaaa
open Go.ChangeShapes Go.WideShapes Go.ChangeAt Go.RowKit
section
variable {H : Type} {enc : TypeId × Value → H} {P : Program} {W W' : World}
/-- A slice of numbers of one kind that came in. -/
theorem open_nums {t e : TypeId} {k : IntKind} (ht : P.underlying t = some (.slice e)) (he : P.underlying e = some (.int k)) (hc : P.cellsOf e = 1) {base : Nat} {v : Value} {d : DataW H} {p : List MemPlace}
    (hval : Value.okWide P W .any base t v) (h : DataW.Trod enc P W 0 (fun _ => true) true t v d p) :
    ∃ (A : Option Addr) (n c : Nat) (zs : List Int), v = .slice A n c ∧ zs.length = n ∧ Row W A n c 1 (zs.map (Value.int k)) ∧ c ≤ maxLen ∧ ∀ z ∈ zs, (Lit.int k z).wf = true := by
  obtain ⟨a1, len, cap, rfl⟩ := okWide_slice ht hval
  obtain ⟨fuel, hf⟩ := h
  rcases open_ints ht he hc hf with ⟨hcs, hx⟩ | ⟨a, len', cap', zs, hcs, _, hl, hm, hz, hx, hcell, hwz⟩
  · simp [Value.cells] at hcs
    obtain ⟨rfl, rfl, rfl⟩ := hcs
    exact ⟨none, 0, 0, [], rfl, rfl, Row.nilRow _ _, Nat.zero_le _, fun _ h => by cases h⟩
  · simp [Value.cells] at hcs
    obtain ⟨rfl, rfl, rfl⟩ := hcs
    simp only [if_true] at hz
    refine ⟨some a, len, cap, zs.take len, rfl, by rw [List.length_take]; omega, ⟨by simp; omega, hl, fun e => (by cases e), fun ad e h0 => ?_⟩, hm, fun z hz' => hwz z (List.mem_of_mem_take hz')⟩
    injection e with e; subst e
    obtain ⟨ab, ao, spot⟩ := a
    have hspot : spot = none := by simpa [Addr.add] using World.cell?_spot (hcell 0 (by omega))
    subst hspot
    refine ⟨ab, ao, rfl, fun i hi => ?_⟩
    rw [Nat.mul_one] at hi
    have := hcell i (by omega)
    rw [Addr.add_lit] at this
    rw [this, List.getElem?_map, List.getElem?_take, if_pos hi, List.getElem?_eq_getElem (by omega)]
    simp [show i < zs.length by omega]
theorem open_i64s {t e : TypeId} (ht : P.underlying t = some (.slice e)) (he : P.underlying e = some (.int .i64)) (hc : P.cellsOf e = 1) {base : Nat} {v : Value} {d : DataW H} {p : List MemPlace}
    (hval : Value.okWide P W .any base t v) (h : DataW.Trod enc P W 0 (fun _ => true) true t v d p) : ∃ (A : Option Addr) (n c : Nat) (l : List Int), v = .slice A n c ∧ Row W A n c 1 (intsV l) ∧ c ≤ maxLen ∧ ∀ z ∈ l, -9223372036854775808 ≤ z ∧ z ≤ 9223372036854775807 := by
  obtain ⟨A, n, c, zs, rfl, _, hr, hm, hw⟩ := open_nums ht he hc hval h
  exact ⟨A, n, c, zs, rfl, hr, hm, fun z hz => bounds_i64 (hw z hz)⟩
theorem trodAll_below (hl : laidOutB P = true) (hb : Below W.heap.size W W') : ∀ {ts : List TypeId} {vs : List Value} {ds : List (DataW H)} {ps : List MemPlace}, (ts.all fun t => P.readableRec t && decide (t < P.types.size)) = true →
    DataW.TrodAll enc P W 0 (fun _ => true) true ts vs ds ps → DataW.TrodAll enc P W' 0 (fun b => decide (b < W.heap.size)) true ts vs ds ps
  | [], [], [], _, _, h => h
  | t :: ts, v :: vs, d :: ds, ps, hB, h => by
    have hlt := DataW.TrodAll.lt h
    obtain ⟨a, b, h1, h2, e⟩ := h
    simp only [List.all_cons, Bool.and_eq_true, decide_eq_true_eq] at hB
    subst e
    exact ⟨a, b, Below.trod hl hB.1.1 hB.1.2 h1 hb (fun x hx => hlt x (List.mem_append_left _ hx)), trodAll_below hl hb (by simpa using hB.2) h2, rfl⟩
/-- Behind a law that answered true and left below the old heap all as it was. -/
theorem law_post {f : Func} {s : ChangeSpec} {tb : TypeId} (hl : laidOutB P = true) (hres : f.resultTypes = #[tb]) (htb : P.underlying tb = some .bool) (hts : (f.params.toList.all fun t => P.readableRec t && decide (t < P.types.size)) = true) (hv : s.vars = [])
    {args : Array Value} {ds gs : List (DataW H)} {before : List MemPlace} (hW : DataW.Whole enc P f.params.toList s.vars false W args.toList ds gs before) (hfn : s.fn H (ds ++ gs) = { results := [.lit (.bool true)], args := ds }) (hb : Below W.heap.size W W') :
    ∃ v, Ending.returned (.bool true) = Ending.returned v ∧ s.post enc P f false true false false W args v W' := by
  have hW' := hW
  obtain ⟨p, q, hA, hV, rfl, _, _⟩ := hW
  refine ⟨_, rfl, ds, gs, _, [], p, [], hW', ?_, ?_, ?_, hb.frame _, fun h => by cases h⟩
  · rw [hfn, hres]; exact trodAll_mk1 (shut_bool htb _)
  · rw [hfn]; exact trodAll_below hl hb hts hA
  · rw [hfn, hv]; exact rfl
end
end Go.Proofs.Ytjmapbaofpilaaa
/-
  PROVED: for every input the law VouchFaces returns true and leaves its arguments as they were. Conditions: none but the row's own.
-/
namespace Go.Proofs.Ytjmapbaofpilaaa.vouchFaces
open Go.ChangeShapes Go.WideShapes Go.ChangeAt Go.RowKit
theorem own : ownKnob Try.prog.godebug = none := by kernel_rfl
theorem laidOut : laidOutB Try.prog = true := by kernel_rfl
theorem cellsI : Try.prog.cellsOf 3 = 1 := by kernel_rfl
set_option maxRecDepth 100000 in
theorem lifted (H10 : VouchC) (os : Os) (started : os.Started) (H : Type) (enc : TypeId × Value → H) :
    ReturnsInHanded {} Try.checked os 3 .any (Rows.vouchFacesSpec.pre6 enc Try.prog Try.f3 Rows.vouchFacesRow.domain false) (Rows.vouchFacesSpec.post enc Try.prog Try.f3 false true false false) := by
  refine returnsInHanded_of_change (C := Try.checked) own started (by kernel_rfl) Try.func3
    (ChangeSpec.witness6 (enc := enc) (C := Try.checked) false ⟨#[], #[.slice none 0 0], []⟩ 8 (by kernel_rfl) (by kernel_rfl) (by kernel_rfl) (by kernel_rfl)) ?_
  intro W base args ds gs before hval hW _ _
  have hW' := hW
  obtain ⟨p, q, hA, hV, rfl, _, _⟩ := hW
  rw [Try.params3] at hA hval
  obtain ⟨v0, d0, rfl, rfl, h0⟩ := trodAll_one hA
  obtain ⟨rfl, rfl⟩ := trodVars_none hV
  obtain ⟨A, n, c, l, rfl, hr, _⟩ := open_i64s Try.underlying22 Try.underlying3 cellsI (hval 0 22 v0 rfl rfl) h0
  refine (vfaces_any H10 A n c l W hr).mono fun e W' ⟨he, hb⟩ => ?_
  subst he
  exact law_post laidOut (by kernel_rfl) Try.underlying4 (by kernel_rfl) rfl hW' rfl hb
theorem over (H10 : VouchC) : Rows.VouchFacesSaid :=
  OpenClaim.holds_of_wide 3 Try.f3 rfl rfl rfl rfl rfl rfl rfl ⟨rfl, rfl, rfl, rfl, rfl⟩ rfl rfl rfl rfl rfl (by kernel_rfl) Try.func3 (by kernel_rfl)
    (of_decide_eq_true (by kernel_rfl)) (by unfold Func.isWrapper; first | (rw [if_pos (by decide +kernel)]; kernel_rfl) | (rw [if_neg (by decide +kernel)]; exact ⟨rfl, rfl⟩))
    (fun os started H enc _ => lifted H10 os started H enc)
end Go.Proofs.Ytjmapbaofpilaaa.vouchFaces
