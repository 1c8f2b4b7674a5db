import Derived.Test.YtdioijnhliejpaaDoorPackC
import Derived.Test.YtdioijnhliejpaaDoorPackB
import Derived.Test.YtdioijnhliejpaaDoorPackBA
import Derived.Test.YtdioijnhliejpaaDoorPackBB
import Derived.Test.YtdioijnhliejpaaDoorPackBC
/- Rows of bare statements: what counts of them. No program. -/
namespace Go.Proofs.YtdioijnhliejpaaDoor
/-- A bare statement with its seal. -/
noncomputable def bareS (au number : Nat) (prev : ByteArray) (time kind a : Nat) : Stm := sealOf (F.bare au number prev time kind a)
theorem mk_check (au number : Nat) (prev : ByteArray) (time kind a : Nat) (h1 : au ≤ 63) (h2 : number ≤ 199) (h3 : prev.size = if number = 0 then 0 else 32) (h4 : time ≤ 2147483648) (h5 : kind = 3 ∨ 10 ≤ kind ∧ kind ≤ 31) (h6 : a ≤ 1099511627776) (h7 : kind = 3 → a = 0) :
    checkV (bareS au number prev time kind a) = 0 := by
  have e0 : (bareS au number prev time kind a).author = (au : Int) := rfl
  have e1 : (bareS au number prev time kind a).number = (number : Int) := rfl
  have e2 : (bareS au number prev time kind a).prev = prev := rfl
  have e3 : (bareS au number prev time kind a).time = (time : Int) := rfl
  have e4 : (bareS au number prev time kind a).kind = (kind : Int) := rfl
  have e5 : (bareS au number prev time kind a).a = (a : Int) := rfl
  have e6 : (bareS au number prev time kind a).b = 0 := rfl
  have e7 : (bareS au number prev time kind a).c = 0 := rfl
  have e8 : (bareS au number prev time kind a).list = [] := rfl
  have e9 : (bareS au number prev time kind a).pins = [] := rfl
  have e10 : (bareS au number prev time kind a).body = ⟨#[]⟩ := rfl
  have b : ∀ v lo hi : Int, lo ≤ v → v ≤ hi → btw v lo hi = true := fun v lo hi g1 g2 => by unfold btw; simp [g1, g2]
  have k1 : isKeyB (au : Int) = true := b _ _ _ (by omega) (by omega)
  have k2 : isKindB (kind : Int) = true := by
    unfold isKindB isTrustB
    rcases h5 with h | h
    · rw [b _ 1 3 (by omega) (by omega)]; rfl
    · rw [b _ 10 31 (by omega) (by omega), Bool.or_true]
  have k3 : btw (time : Int) 0 2147483648 = true := b _ _ _ (by omega) (by omega)
  have k4 : rangeB (bareS au number prev time kind a) = true := by
    unfold rangeB fitsB
    rw [e1, e5, e6, e7, e8, e4]
    rw [b (number : Int) 0 199 (by omega) (by omega)]
    rw [show isValueB (a : Int) = true from b _ _ _ (by omega) (by omega), show isValueB 0 = true from rfl]
    rcases h5 with h | h
    · rw [h7 h, h]; rfl
    · have g1 : ¬ (kind : Int) = 1 := by omega
      have g2 : ¬ (kind : Int) = 2 := by omega
      have g3 : ¬ (kind : Int) = 3 := by omega
      simp [g1, g2, g3, listB']
  have k5 : formB (bareS au number prev time kind a) = true := by
    unfold formB prevB
    rw [e1, e2, e8, e9, e10, e4]
    by_cases h : number = 0
    · subst h
      simp [h3, pinsB]
      exact .inr rfl
    · rw [if_neg h] at h3
      simp [h3, pinsB]
      exact ⟨.inr rfl, h⟩
  unfold checkV
  rw [e0, e4, e3, k1, k2, k3, k4, k5, e8, e9, e10]
  rfl
/-- A statement that may stand in a row: whatever a row asks of each of its statements. -/
structure Fit (au : Int) (x : Stm) : Prop where
  author : x.author = au
  check : checkV x = 0
  sealed : sealedB x = true
  bare : x.list = [] ∧ x.pins = [] ∧ Small x ∧ 0 ≤ x.number ∧ x.number < 200
theorem mk_fit (au number : Nat) (prev : ByteArray) (time kind a : Nat) (h1 : au ≤ 63) (h2 : number ≤ 199) (h3 : prev.size = if number = 0 then 0 else 32) (h4 : time ≤ 2147483648) (h5 : kind = 3 ∨ 10 ≤ kind ∧ kind ≤ 31) (h6 : a ≤ 1099511627776) (h7 : kind = 3 → a = 0) :
    Fit au (bareS au number prev time kind a) := by
  refine ⟨rfl, mk_check au number prev time kind a h1 h2 h3 h4 h5 h6 h7, ?_, rfl, rfl, ⟨?_, ?_, ?_, ?_, ?_, ?_⟩, ?_, ?_⟩
  · show (decide ((au : Int) = au) && decide (digS (F.bare au number prev time kind a) = digS (bareS au number prev time kind a))) = true
    rw [show digS (bareS au number prev time kind a) = digS (F.bare au number prev time kind a) from rfl]
    simp
  · show prev.size ≤ 1000
    rw [h3]
    by_cases h : number = 0
    · rw [if_pos h]; omega
    · rw [if_neg h]; omega
  · exact Nat.zero_le _
  · exact Nat.zero_le _
  · exact Nat.zero_le _
  · exact Nat.zero_le _
  · show (digS (F.bare au number prev time kind a)).size ≤ 100000
    rw [digS_size]; omega
  · show (0 : Int) ≤ (number : Int); omega
  · show (number : Int) < 200; omega
theorem Good.nil (au : Int) : Good au [] := ⟨fun _ h => by simp at h, fun _ h => by simp at h, fun _ h => by simp at h, fun _ h => by simp at h, by simp⟩
theorem Good.snoc {au : Int} {l : List Stm} {x : Stm} (h : Good au l) (hx : Fit au x) (hd : ∀ y ∈ l, y.dig ≠ x.dig) : Good au (l ++ [x]) := by
  have k : ∀ {P : Stm → Prop}, (∀ s ∈ l, P s) → P x → ∀ s ∈ l ++ [x], P s := fun h1 h2 s hs => by
    rcases List.mem_append.1 hs with h | h
    · exact h1 s h
    · rw [List.mem_singleton.1 h]; exact h2
  refine ⟨k h.author hx.author, k h.check hx.check, k h.sealed hx.sealed, k h.bare hx.bare, ?_⟩
  rw [List.map_append, List.nodup_append]
  refine ⟨h.nodup, by simp, fun a ha b hb => ?_⟩
  obtain ⟨y, hy, rfl⟩ := List.mem_map.1 ha
  rw [show b = x.dig by simpa using hb]
  exact hd y hy
/-- What counts, where a row's statements are the only ones with their numbers, and each one goes on. -/
theorem countL_walk (L row : List Stm) (hrow : ∀ i (h : i < row.length), withNum L i = [row[i]] ∧ contB (row.take i) row[i] = true) (hm : row.length < 200) (hstop : contNow L row row.length = false) : countL L 200 [] 0 = row := by
  have key : ∀ j, j ≤ row.length → countL L 200 [] 0 = countL L (200 - j) (row.take j) j := by
    intro j
    induction j with
    | zero => intro _; rfl
    | succ j ih =>
      intro hj
      obtain ⟨h1, h2⟩ := hrow j (by omega)
      rw [ih (by omega), countL_go L (row.take j) j (by omega) (by unfold contNow; rw [h1]; simpa using h2), h1]
      congr 1
      rw [List.take_add_one, List.getElem?_eq_getElem (by omega)]
      rfl
  rw [key row.length (Nat.le_refl _), List.take_of_length_le (Nat.le_refl _)]
  exact countL_stop L row row.length hm hstop
/-- A row that counts wholly. -/
structure Whole' (au : Int) (l : List Stm) : Prop where
  good : Good au l
  num : ∀ i (h : i < l.length), (l[i]).number = (i : Int)
  cont : ∀ i (h : i < l.length), contB (l.take i) l[i] = true
theorem Whole'.nil (au : Int) : Whole' au [] := ⟨Good.nil au, fun _ h => absurd h (by simp), fun _ h => absurd h (by simp)⟩
theorem withNum_snoc (l : List Stm) (x : Stm) (i : Nat) : withNum (l ++ [x]) i = withNum l i ++ if x.number = (i : Int) then [x] else [] := by
  unfold withNum
  rw [List.filter_append]
  by_cases h : x.number = (i : Int)
  · rw [if_pos h]; simp [h]
  · rw [if_neg h]; simp [h]
theorem withNum_of : ∀ (n : Nat) (l : List Stm), l.length = n → (∀ i (h : i < l.length), (l[i]).number = (i : Int)) → ∀ i, withNum l i = if h : i < l.length then [l[i]] else [] := by
  intro n
  induction n with
  | zero =>
    intro l hl _ i
    have : l = [] := List.eq_nil_of_length_eq_zero hl
    subst this
    rfl
  | succ n ih =>
    intro l hl hn i
    obtain ⟨m, x, rfl⟩ : ∃ m x, l = m ++ [x] := ⟨l.dropLast, l.getLast (by intro h; rw [h] at hl; simp at hl), (List.dropLast_concat_getLast _).symm⟩
    have hm : m.length = n := by simpa using hl
    have h1 := ih m hm (fun j hj => by have h := hn j (by simp; omega); rwa [List.getElem_append_left hj] at h) i
    have h2 : x.number = (n : Int) := by have h := hn n (by simp; omega); rwa [List.getElem_append_right (by omega), List.getElem_singleton] at h
    rw [withNum_snoc, h1, h2]
    by_cases hi : i < m.length
    · rw [dif_pos hi, dif_pos (by simp; omega), if_neg (by omega), List.append_nil, List.getElem_append_left hi]
    · rw [dif_neg hi, List.nil_append]
      by_cases hin : n = i
      · subst hin
        rw [if_pos rfl, dif_pos (by simp; omega), List.getElem_append_right (by omega), List.getElem_singleton]
      · rw [if_neg (by omega), dif_neg (by simp; omega)]
theorem Whole'.at {au : Int} {l : List Stm} (h : Whole' au l) (i : Nat) : withNum l i = if h : i < l.length then [l[i]] else [] := withNum_of _ l rfl h.num i
theorem Whole'.snoc {au : Int} {l : List Stm} {x : Stm} (h : Whole' au l) (hx : Fit au x) (hd : ∀ y ∈ l, y.dig ≠ x.dig) (hn : x.number = (l.length : Int)) (hc : contB l x = true) : Whole' au (l ++ [x]) := by
  refine ⟨h.good.snoc hx hd, fun i hi => ?_, fun i hi => ?_⟩
  · by_cases hil : i < l.length
    · rw [List.getElem_append_left hil]; exact h.num i hil
    · rw [List.getElem_append_right (by omega), List.getElem_singleton, hn]
      have : i = l.length := by simp at hi; omega
      rw [this]
  · by_cases hil : i < l.length
    · rw [List.getElem_append_left hil, List.take_append_of_le_length (by omega)]; exact h.cont i hil
    · have e : i = l.length := by simp at hi; omega
      subst e
      rw [List.getElem_append_right (Nat.le_refl _), List.getElem_singleton, List.take_append_of_le_length (Nat.le_refl _), List.take_of_length_le (Nat.le_refl _)]
      exact hc
theorem Whole'.count {au : Int} {l : List Stm} (h : Whole' au l) (hm : l.length < 200) : countL l 200 [] 0 = l :=
  countL_walk l l (fun i hi => ⟨by rw [h.at i, dif_pos hi], h.cont i hi⟩) hm (by unfold contNow; rw [h.at l.length, dif_neg (Nat.lt_irrefl _)]; rfl)
theorem Whole'.two {au : Int} {l : List Stm} (h : Whole' au l) (n : Nat) : (l.filter fun s => decide (s.number = (n : Int))).length ≤ 2 := by
  have e := h.at n
  unfold withNum at e
  rw [e]
  by_cases hn : n < l.length
  · rw [dif_pos hn]; simp
  · rw [dif_neg hn]; simp
/-- A statement with the number that comes next, which does not go on. -/
theorem Whole'.late {au : Int} {l : List Stm} {x : Stm} (h : Whole' au l) (hm : l.length < 200) (hn : x.number = (l.length : Int)) (hc : contB l x = false) : countL (l ++ [x]) 200 [] 0 = l := by
  refine countL_walk (l ++ [x]) l (fun i hi => ⟨?_, h.cont i hi⟩) hm ?_
  · rw [withNum_snoc, h.at i, dif_pos hi, if_neg (by omega)]; rfl
  · unfold contNow
    rw [withNum_snoc, h.at l.length, dif_neg (Nat.lt_irrefl _), if_pos hn]
    simpa using hc
theorem Whole'.two_late {au : Int} {l : List Stm} {x : Stm} (h : Whole' au l) (n : Nat) : ((l ++ [x]).filter fun s => decide (s.number = (n : Int))).length ≤ 2 := by
  have e := h.at n
  have e2 := withNum_snoc l x n
  rw [e] at e2
  unfold withNum at e2
  rw [e2]
  by_cases hn : n < l.length
  · rw [dif_pos hn]
    by_cases hx : x.number = (n : Int)
    · rw [if_pos hx]; simp
    · rw [if_neg hx]; simp
  · rw [dif_neg hn]
    by_cases hx : x.number = (n : Int)
    · rw [if_pos hx]; simp
    · rw [if_neg hx]; simp
end Go.Proofs.YtdioijnhliejpaaDoor
/- The digests of a chain's statements are the reckoned ones; so they differ. No program. -/
namespace Go.Proofs.YtdioijnhliejpaaDoor
namespace F
theorem shaS_of (m : List UInt8) : shaS ((padAll m).length / 64) ((padAll m).map UInt8.toNat) = ofSt (Sha.eat ((padAll m).length / 64) (padAll m) Sha.start).1 := by
  unfold shaS
  rw [eat_eq _ _ _ (by omega), iv_eq]
theorem ofSt_lt (s : Sha.St) : (ofSt s).a < 4294967296 := UInt32.toNat_lt _
theorem shaS_lt (m : List UInt8) : (shaS ((padAll m).length / 64) ((padAll m).map UInt8.toNat)).a < 4294967296 := by rw [shaS_of]; exact ofSt_lt _
theorem firstN_lt (author time kind a : Nat) : (firstN author time kind a).a < 4294967296 := by
  have hb := body_eq author 0 ⟨#[]⟩ time kind a
  have hl : (bodyB (bare author 0 ⟨#[]⟩ time kind a)).length = 88 := by
    have h := congrArg List.length hb
    rw [List.length_map, bodyN_len] at h
    exact h
  have hp := pad88 _ hl
  have h := shaS_lt (bodyB (bare author 0 ⟨#[]⟩ time kind a))
  rw [hp.1, hp.2, hb] at h
  exact h
theorem laterN_lt (author number : Nat) (prev : ByteArray) (time kind a : Nat) (hs : prev.size = 32) : (laterN author number (prev.data.toList.map UInt8.toNat) time kind a).a < 4294967296 := by
  have hb := body_eq author number prev time kind a
  have hl : (bodyB (bare author number prev time kind a)).length = 120 := by
    have h := congrArg List.length hb
    rw [List.length_map, bodyN_len, List.length_map] at h
    have h2 : prev.data.toList.length = 32 := hs
    rw [h2] at h
    exact h
  have hp := pad120 _ hl
  have h := shaS_lt (bodyB (bare author number prev time kind a))
  rw [hp.1, hp.2, hb] at h
  exact h
theorem text_a {s t : S} (hs : s.a < 4294967296) (ht : t.a < 4294967296) (h : text s = text t) : s.a = t.a := by
  unfold text bytes4 at h
  simp only [List.cons_append, List.nil_append, List.cons.injEq] at h
  obtain ⟨h1, h2, h3, h4, -⟩ := h
  have h1 : s.a / 16777216 % 256 = t.a / 16777216 % 256 := h1
  have h2 : s.a / 65536 % 256 = t.a / 65536 % 256 := h2
  have h3 : s.a / 256 % 256 = t.a / 256 % 256 := h3
  have h4 : s.a % 256 = t.a % 256 := h4
  omega
theorem notIn_ne {x : Nat} : ∀ {l : List Nat}, notIn x l = true → ∀ y ∈ l, x ≠ y
  | [], _, _, h => by cases h
  | z :: l, h, y, hy => by
    unfold notIn at h
    rw [Bool.and_eq_true, Bool.not_eq_true'] at h
    rcases List.mem_cons.1 hy with rfl | hy
    · exact fun e => by rw [e, Nat.beq_refl] at h; cases h.1
    · exact notIn_ne h.2 y hy
theorem tree_step {n number time : Nat} {s : S} {seen : List Nat} (h : treeN (n + 1) number time s seen = true) (k : Nat) (hk : k < 9) :
    notIn (laterN 1 number (text s) (time + k) 10 (n + 1)).a seen = true ∧ treeN n (number + 1) (time + k) (laterN 1 number (text s) (time + k) 10 (n + 1)) ((laterN 1 number (text s) (time + k) 10 (n + 1)).a :: seen) = true := by
  unfold treeN at h
  have h2 := List.all_eq_true.1 h k (List.mem_range.2 hk)
  rw [forceS_eq, Bool.and_eq_true] at h2
  exact h2
theorem tree_leaf {number time : Nat} {s : S} {seen : List Nat} (h : treeN 0 number time s seen = true) :
    notIn (laterN 1 number (text s) time 3 0).a seen = true ∧ notIn (laterN 1 number (text s) (time - 1) 10 0).a seen = true ∧
      notIn (laterN 1 (number + 1) (text (laterN 1 number (text s) time 3 0)) 900 10 0).a ((laterN 1 number (text s) time 3 0).a :: seen) = true := by
  unfold treeN leafN at h
  simp only [forceS_eq, Bool.and_eq_true] at h
  exact h
theorem nine (p : Nat → Prop) (h0 : p 0) (h1 : p 1) (h2 : p 2) (h3 : p 3) (h4 : p 4) (h5 : p 5) (h6 : p 6) (h7 : p 7) (h8 : p 8) (k : Nat) (hk : k < 9) : p k := by
  match k, hk with
  | 0, _ => exact h0
  | 1, _ => exact h1
  | 2, _ => exact h2
  | 3, _ => exact h3
  | 4, _ => exact h4
  | 5, _ => exact h5
  | 6, _ => exact h6
  | 7, _ => exact h7
  | 8, _ => exact h8
theorem two_all (k : Nat) (hk : k < 9) : twoN k = true := nine (fun k => twoN k = true) two0 two1 two2 two3 two4 two5 two6 two7 two8 k hk
theorem three_all (k j : Nat) (hk : k < 9) (hj : j < 9) : threeN k j = true :=
  nine (fun k => ∀ j, j < 9 → threeN k j = true)
    (nine _ three00 three01 three02 three03 three04 three05 three06 three07 three08)
    (nine _ three10 three11 three12 three13 three14 three15 three16 three17 three18)
    (nine _ three20 three21 three22 three23 three24 three25 three26 three27 three28)
    (nine _ three30 three31 three32 three33 three34 three35 three36 three37 three38)
    (nine _ three40 three41 three42 three43 three44 three45 three46 three47 three48)
    (nine _ three50 three51 three52 three53 three54 three55 three56 three57 three58)
    (nine _ three60 three61 three62 three63 three64 three65 three66 three67 three68)
    (nine _ three70 three71 three72 three73 three74 three75 three76 three77 three78)
    (nine _ three80 three81 three82 three83 three84 three85 three86 three87 three88) k hk j hj
theorem root_tree {n : Nat} (h : rootN n = true) : treeN n 1 50 (firstN 1 50 10 (n + 1)) [(firstN 1 50 10 (n + 1)).a] = true := by
  unfold rootN at h
  rw [forceS_eq] at h
  exact h
theorem tree2 : treeN 2 1 50 (firstN 1 50 10 3) [(firstN 1 50 10 3).a] = true := by
  unfold treeN
  refine List.all_eq_true.2 fun k hk => ?_
  have h := two_all k (List.mem_range.1 hk)
  unfold twoN at h
  rw [forceS_eq, forceS_eq] at h
  rw [forceS_eq]
  exact h
theorem tree3 : treeN 3 1 50 (firstN 1 50 10 4) [(firstN 1 50 10 4).a] = true := by
  unfold treeN
  refine List.all_eq_true.2 fun k hk => ?_
  rw [forceS_eq, Bool.and_eq_true]
  have h0 := three_all k 0 (List.mem_range.1 hk) (by decide)
  unfold threeN at h0
  rw [forceS_eq, forceS_eq, forceS_eq, Bool.and_eq_true] at h0
  refine ⟨h0.1, ?_⟩
  clear h0
  unfold treeN
  refine List.all_eq_true.2 fun j hj => ?_
  have h := three_all k j (List.mem_range.1 hk) (List.mem_range.1 hj)
  unfold threeN at h
  rw [forceS_eq, forceS_eq, forceS_eq, Bool.and_eq_true] at h
  rw [forceS_eq]
  exact h.2
theorem tree_all (n : Nat) (hn : n < 4) : treeN n 1 50 (firstN 1 50 10 (n + 1)) [(firstN 1 50 10 (n + 1)).a] = true := by
  match n, hn with
  | 0, _ => exact root_tree root0
  | 1, _ => exact root_tree root1
  | 2, _ => exact tree2
  | 3, _ => exact tree3
end F
/-- A digest is the one of a reckoned state. -/
structure Digit (d : ByteArray) (s : F.S) : Prop where
  text : d.data.toList.map UInt8.toNat = F.text s
  lt : s.a < 4294967296
  size : d.size = 32
theorem Digit.ne {d e : ByteArray} {s t : F.S} (h : Digit d s) (g : Digit e t) (hne : s.a ≠ t.a) : d ≠ e := fun he => hne (F.text_a h.lt g.lt (by rw [← h.text, ← g.text, he]))
theorem digit_first (au time kind a : Nat) : Digit (bareS au 0 ⟨#[]⟩ time kind a).dig (F.firstN au time kind a) := ⟨F.first_eq au time kind a, F.firstN_lt au time kind a, digS_size _⟩
theorem digit_later {d : ByteArray} {s : F.S} (h : Digit d s) (au number time kind a : Nat) : Digit (bareS au number d time kind a).dig (F.laterN au number (F.text s) time kind a) :=
  ⟨by rw [← h.text]; exact F.later_eq au number d time kind a h.size, by rw [← h.text]; exact F.laterN_lt au number d time kind a h.size, digS_size _⟩
end Go.Proofs.YtdioijnhliejpaaDoor
/- The chains of the statement ChainEnds, and those of its sanity check. No program. -/
namespace Go.Proofs.YtdioijnhliejpaaDoor
/-- The last one of a row. -/
def lastS (l : List Stm) : Stm := l.getD (l.length - 1) noStm
theorem lastS_snoc (l : List Stm) (x : Stm) : lastS (l ++ [x]) = x := by
  unfold lastS
  rw [List.getD_eq_getElem?_getD, List.getElem?_append_right (by simp)]
  simp
theorem lastS_mem {l : List Stm} (h : 1 ≤ l.length) : lastS l ∈ l := by
  unfold lastS
  rw [List.getD_eq_getElem?_getD, List.getElem?_eq_getElem (by omega)]
  exact List.getElem_mem _
theorem Whole'.last_number {au : Int} {l : List Stm} (h : Whole' au l) (hp : 1 ≤ l.length) : (lastS l).number = (l.length : Int) - 1 := by
  unfold lastS
  rw [List.getD_eq_getElem?_getD, List.getElem?_eq_getElem (by omega)]
  show (l[l.length - 1]).number = _
  rw [h.num (l.length - 1) (by omega)]
  omega
theorem go_on {au : Nat} {l : List Stm} (h : Whole' au l) (hp : 1 ≤ l.length) (hk : (lastS l).kind ≠ 3) (time kind a : Nat) (ht : (lastS l).time ≤ (time : Int)) : contB l (bareS au l.length (lastS l).dig time kind a) = true := by
  unfold contB
  rw [if_neg (by omega)]
  have h1 := h.last_number hp
  have h2 := h.good.author _ (lastS_mem hp)
  unfold lastS at hk ht h1 h2 ⊢
  generalize l.getD (l.length - 1) noStm = y at hk ht h1 h2 ⊢
  unfold behindB
  have e1 : (bareS au l.length y.dig time kind a).author = (au : Int) := rfl
  have e2 : (bareS au l.length y.dig time kind a).number = (l.length : Int) := rfl
  have e3 : (bareS au l.length y.dig time kind a).time = (time : Int) := rfl
  have e4 : (bareS au l.length y.dig time kind a).prev = y.dig := rfl
  rw [e1, e2, e3, e4, h1, h2]
  simp only [Bool.and_eq_true, decide_eq_true_eq]
  refine ⟨hk, ⟨?_, ?_, ?_, ht⟩, ?_⟩ <;> first | trivial | omega | simp
theorem not_on {l : List Stm} {x : Stm} (hp : 1 ≤ l.length) (h : (lastS l).kind = 3 ∨ x.time < (lastS l).time) : contB l x = false := by
  unfold contB
  rw [if_neg (by omega)]
  unfold lastS at h
  generalize l.getD (l.length - 1) noStm = y at h ⊢
  rcases h with h | h
  · rw [h]; rfl
  · unfold behindB
    rw [show decide (y.time ≤ x.time) = false from decide_eq_false (by omega)]
    simp
theorem first_on (x : Stm) : contB [] x = true := rfl
/-- A statement before it is one. -/
def draft (time : Int) (kind a : Nat) : Stm := ⟨0, 0, ⟨#[]⟩, time, kind, a, 0, 0, [], [], ⟨#[]⟩, 0, ⟨#[]⟩⟩
theorem draft_small (time : Int) (kind a : Nat) : Small (draft time kind a) := ⟨Nat.zero_le _, Nat.zero_le _, Nat.zero_le _, Nat.zero_le _, Nat.zero_le _, Nat.zero_le _⟩
theorem next_first (au time kind a : Nat) (hc : checkV (bareS au 0 ⟨#[]⟩ time kind a) = 0) : nextR au [] (draft time kind a) = (bareS au 0 ⟨#[]⟩ time kind a, 0) := by
  unfold nextR
  rw [if_neg (by simp), if_neg (by simp)]
  have e : draftS au [] (draft time kind a) = F.bare au 0 ⟨#[]⟩ time kind a := rfl
  rw [e, if_pos (show checkV (F.bare au 0 ⟨#[]⟩ time kind a) = 0 from hc)]
  rfl
theorem next_later {au : Nat} {l : List Stm} (h : Whole' au l) (hp : 1 ≤ l.length) (hk : (lastS l).kind ≠ 3) (time kind a : Nat) (ht : (lastS l).time ≤ (time : Int)) (hc : checkV (bareS au l.length (lastS l).dig time kind a) = 0) :
    nextR au l (draft time kind a) = (bareS au l.length (lastS l).dig time kind a, 0) := by
  have h1 := h.last_number hp
  unfold nextR
  rw [if_neg (fun e => by have h2 : (time : Int) < (lastS l).time := e.2; omega), if_neg (fun e => hk e.2)]
  have e : draftS au l (draft time kind a) = F.bare au l.length (lastS l).dig time kind a := by
    unfold draftS
    rw [if_neg (by omega)]
    show (⟨(au : Int), (lastS l).number + 1, (lastS l).dig, _, _, _, _, _, _, _, _, _, _⟩ : Stm) = _
    rw [h1, Int.sub_add_cancel]
    rfl
  rw [e, if_pos (show checkV (F.bare au l.length (lastS l).dig time kind a) = 0 from hc)]
  rfl
theorem next_time {au : Int} {l : List Stm} (hp : 1 ≤ l.length) (time : Int) (kind a : Nat) (ht : time < (lastS l).time) : nextR au l (draft time kind a) = (noStm, 9) := by
  unfold nextR
  rw [if_pos ⟨by omega, ht⟩]
theorem next_kind {au : Int} {l : List Stm} (hp : 1 ≤ l.length) (time : Int) (kind a : Nat) (ht : (lastS l).time ≤ time) (hk : (lastS l).kind = 3) : nextR au l (draft time kind a) = (noStm, 5) := by
  unfold nextR
  rw [if_neg (fun e => by have h2 : time < (lastS l).time := e.2; omega), if_pos ⟨by omega, hk⟩]
/-- The chain of ChainEnds in the making: r statements are still to come; the last one is of the time t. -/
structure Grows (r : Nat) (l : List Stm) (t : Nat) : Prop where
  whole : Whole' (1 : Nat) l
  pos : 1 ≤ l.length
  len : l.length + r ≤ 4
  time : (lastS l).time = (t : Int)
  early : 50 ≤ t ∧ t + 8 * r ≤ 74
  kind : (lastS l).kind = 10
  digs : ∃ s seen, Digit (lastS l).dig s ∧ F.treeN r l.length t s seen = true ∧ ∀ y ∈ l, ∃ u, Digit y.dig u ∧ u.a ∈ seen
theorem grows_first (r : Nat) (hr : r < 4) : Grows r [bareS 1 0 ⟨#[]⟩ 50 10 (r + 1)] 50 ∧ nextR (1 : Nat) [] (draft (50 : Nat) 10 (r + 1)) = (bareS 1 0 ⟨#[]⟩ 50 10 (r + 1), 0) := by
  have hf := mk_fit 1 0 ⟨#[]⟩ 50 10 (r + 1) (by omega) (by omega) rfl (by omega) (.inr (by omega)) (by omega) (by omega)
  refine ⟨⟨?_, by simp, by simp; omega, rfl, by omega, rfl, F.firstN 1 50 10 (r + 1), _, digit_first 1 50 10 (r + 1), F.tree_all r hr, fun y hy => ⟨F.firstN 1 50 10 (r + 1), by rw [List.mem_singleton.1 hy]; exact digit_first 1 50 10 (r + 1), by simp⟩⟩, next_first 1 50 10 (r + 1) hf.check⟩
  exact (Whole'.nil _).snoc (l := []) hf (fun _ h => by cases h) rfl rfl
theorem grows_ne {l : List Stm} {seen : List Nat} (hm : ∀ y ∈ l, ∃ u, Digit y.dig u ∧ u.a ∈ seen) {d : ByteArray} {s : F.S} (h : Digit d s) (hn : F.notIn s.a seen = true) : ∀ y ∈ l, y.dig ≠ d := fun y hy => by
  obtain ⟨u, hu, hs⟩ := hm y hy
  exact (h.ne hu (F.notIn_ne hn _ hs)).symm
theorem grows_next {r : Nat} {l : List Stm} {t : Nat} (h : Grows (r + 1) l t) (k : Nat) (hk : k < 9) :
    Grows r (l ++ [bareS 1 l.length (lastS l).dig (t + k) 10 (r + 1)]) (t + k) ∧ nextR (1 : Nat) l (draft ((t + k : Nat) : Int) 10 (r + 1)) = (bareS 1 l.length (lastS l).dig (t + k) 10 (r + 1), 0) := by
  obtain ⟨s, seen, hd, ht, hm⟩ := h.digs
  obtain ⟨h1, h2⟩ := F.tree_step ht k hk
  have hlen := h.len; have hpos := h.pos; have hea := h.early
  have hdx := digit_later hd 1 l.length (t + k) 10 (r + 1)
  have hf := mk_fit 1 l.length (lastS l).dig (t + k) 10 (r + 1) (by omega) (by omega) (by rw [if_neg (by omega)]; exact hd.size) (by omega) (.inr (by omega)) (by omega) (by omega)
  have hk3 : (lastS l).kind ≠ 3 := by rw [h.kind]; decide
  have hti : (lastS l).time ≤ ((t + k : Nat) : Int) := by rw [h.time]; omega
  refine ⟨⟨h.whole.snoc hf (grows_ne hm hdx h1) rfl (go_on h.whole hpos hk3 _ _ _ hti), by simp, by simp; omega, by rw [lastS_snoc]; rfl, by omega, by rw [lastS_snoc]; rfl, _, _, by rw [lastS_snoc]; exact hdx, by rw [List.length_append]; exact h2, ?_⟩, next_later h.whole hpos hk3 _ _ _ hti hf.check⟩
  intro y hy
  rcases List.mem_append.1 hy with hy | hy
  · obtain ⟨u, hu, hs⟩ := hm y hy
    exact ⟨u, hu, List.mem_cons_of_mem _ hs⟩
  · rw [List.mem_singleton.1 hy]
    exact ⟨_, hdx, List.mem_cons_self⟩
/-- What the statement asks of a chain that is made. -/
structure Ended (l : List Stm) (t : Nat) (gone late after : Stm) : Prop where
  goneIs : gone = bareS 1 l.length (lastS l).dig t 3 0
  lateIs : late = bareS 1 l.length (lastS l).dig (t - 1) 10 0
  afterIs : after = bareS 1 (l.length + 1) gone.dig 900 10 0
  next : nextR (1 : Nat) l (draft (t : Int) 3 0) = (gone, 0)
  whole : Whole' (1 : Nat) (l ++ [gone])
  lateGood : Good (1 : Nat) (l ++ [late])
  lateCount : countL (l ++ [late]) 200 [] 0 = l
  afterGood : Good (1 : Nat) ((l ++ [gone]) ++ [after])
  afterCount : countL ((l ++ [gone]) ++ [after]) 200 [] 0 = l ++ [gone]
  kind : nextR (1 : Nat) (l ++ [gone]) (draft 900 10 0) = (noStm, 5)
theorem Grows.ended {l : List Stm} {t : Nat} (h : Grows 0 l t) : ∃ gone late after, Ended l t gone late after := by
  obtain ⟨s, seen, hd, ht, hm⟩ := h.digs
  obtain ⟨h1, h2, h3⟩ := F.tree_leaf ht
  have hlen := h.len; have hpos := h.pos; have hea := h.early
  have hk3 : (lastS l).kind ≠ 3 := by rw [h.kind]; decide
  have hti : (lastS l).time ≤ ((t : Nat) : Int) := by rw [h.time]; omega
  have hdg := digit_later hd 1 l.length t 3 0
  have hdl := digit_later hd 1 l.length (t - 1) 10 0
  have hda := digit_later hdg 1 (l.length + 1) 900 10 0
  have fg := mk_fit 1 l.length (lastS l).dig t 3 0 (by omega) (by omega) (by rw [if_neg (by omega)]; exact hd.size) (by omega) (.inl rfl) (by omega) (by omega)
  have fl := mk_fit 1 l.length (lastS l).dig (t - 1) 10 0 (by omega) (by omega) (by rw [if_neg (by omega)]; exact hd.size) (by omega) (.inr (by omega)) (by omega) (by omega)
  have fa := mk_fit 1 (l.length + 1) (bareS 1 l.length (lastS l).dig t 3 0).dig 900 10 0 (by omega) (by omega) (by rw [if_neg (by omega)]; exact hdg.size) (by omega) (.inr (by omega)) (by omega) (by omega)
  have hw : Whole' (1 : Nat) (l ++ [bareS 1 l.length (lastS l).dig t 3 0]) := h.whole.snoc fg (grows_ne hm hdg h1) rfl (go_on h.whole hpos hk3 _ _ _ hti)
  have hlk : (lastS (l ++ [bareS 1 l.length (lastS l).dig t 3 0])).kind = 3 := by rw [lastS_snoc]; rfl
  refine ⟨_, _, _, rfl, rfl, rfl, next_later h.whole hpos hk3 _ _ _ hti fg.check, hw, h.whole.good.snoc fl (grows_ne hm hdl h2), ?_, hw.good.snoc fa ?_, ?_, ?_⟩
  · exact h.whole.late (by omega) rfl (not_on hpos (.inr (by rw [h.time]; show ((t - 1 : Nat) : Int) < _; omega)))
  · refine grows_ne (seen := (F.laterN 1 l.length (F.text s) t 3 0).a :: seen) ?_ hda h3
    intro y hy
    rcases List.mem_append.1 hy with hy | hy
    · obtain ⟨u, hu, hs⟩ := hm y hy
      exact ⟨u, hu, List.mem_cons_of_mem _ hs⟩
    · rw [List.mem_singleton.1 hy]
      exact ⟨_, hdg, List.mem_cons_self⟩
  · exact hw.late (by simp; omega) (by simp; rfl) (not_on (by simp) (.inl hlk))
  · exact next_kind (by simp) 900 10 0 (by rw [lastS_snoc]; show ((t : Nat) : Int) ≤ 900; omega) hlk
end Go.Proofs.YtdioijnhliejpaaDoor
/- What is known between two rounds of ChainEnds. No program. -/
namespace Go.Proofs.YtdioijnhliejpaaDoor
/-- r statements are still to come, behind l; the next one would be of the time tm. -/
def State (r : Nat) (l : List Stm) (tm : Nat) : Prop := (l = [] ∧ tm = 50 ∧ 1 ≤ r ∧ r ≤ 4) ∨ ∃ t0 d, Grows r l t0 ∧ d < 9 ∧ tm = t0 + d
theorem state_next {r : Nat} {l : List Stm} {tm : Nat} (h : State r l tm) (hr : 1 ≤ r) :
    ∃ x, nextR (1 : Nat) l (draft (tm : Int) 10 r) = (x, 0) ∧ Whole' (1 : Nat) l ∧ l.length ≤ 4 ∧ tm ≤ 100 ∧ r ≤ 4 ∧ ∀ d, d < 9 → State (r - 1) (l ++ [x]) (tm + d) := by
  obtain ⟨q, rfl⟩ : ∃ q, r = q + 1 := ⟨r - 1, by omega⟩
  rcases h with ⟨rfl, rfl, _, h4⟩ | ⟨t0, d, hg, hd, rfl⟩
  · obtain ⟨h1, h2⟩ := grows_first q (by omega)
    exact ⟨_, h2, Whole'.nil _, by simp, by omega, h4, fun d hd => .inr ⟨50, d, h1, hd, rfl⟩⟩
  · obtain ⟨h1, h2⟩ := grows_next hg d hd
    have he := hg.early; have hl := hg.len
    exact ⟨_, h2, hg.whole, by omega, by omega, by omega, fun e he => .inr ⟨t0 + d, e, h1, he, rfl⟩⟩
theorem state_end {l : List Stm} {tm : Nat} (h : State 0 l tm) : ∃ t0, Grows 0 l t0 := by
  rcases h with ⟨_, _, h1, _⟩ | ⟨t0, _, hg, _, _⟩
  · omega
  · exact ⟨t0, hg⟩
end Go.Proofs.YtdioijnhliejpaaDoor
