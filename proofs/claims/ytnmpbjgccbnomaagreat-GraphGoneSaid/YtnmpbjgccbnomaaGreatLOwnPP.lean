import Derived.Test.YtnmpbjgccbnomaaGreatPackAK
/- The walk of the reference's Own. -/
namespace Go.Proofs.YtnmpbjgccbnomaaGreat
open Go.RowKit
/-- What the call owns lies in blocks that are new. -/
theorem own_ge {w : World} {B : Nat} {e : TypeId} {sz : Nat} {v : Value} {n : Nat} {xs : List Value} (h : w.ownsRow B e sz v n xs) : ∀ k, v.ownBlock = some k → B ≤ k := by
  intro k hk
  rcases h.2 with ⟨hn, _⟩ | ⟨a, cap, cur, rfl, ha, hgg, rest⟩
  · subst hn; cases hk
  · injection hk with hk
    subst hk
    exact ha
/-- The reference's order in a list of one author. -/
def slotB (a x : Stm) : Bool := decide (a.number < x.number) || (decide (a.number = x.number) && Op.bytesLess a.dig.toList x.dig.toList)
theorem slotB_eq (a x : Stm) : slotB a x = if a.number < x.number then true else if a.number = x.number then Op.bytesLess a.dig.toList x.dig.toList else false := by
  unfold slotB
  split
  · rename_i h; rw [decide_eq_true h, Bool.true_or]
  · rename_i h
    rw [decide_eq_false h, Bool.false_or]
    split
    · rename_i h2; rw [decide_eq_true h2, Bool.true_and]
    · rename_i h2; rw [decide_eq_false h2, Bool.false_and]
def slotK : List Stm → Stm → Nat
  | [], _ => 0
  | a :: l, x => if slotB a x then slotK l x + 1 else 0
theorem slotK_le : ∀ (l : List Stm) (x : Stm), slotK l x ≤ l.length
  | [], _ => Nat.le_refl _
  | a :: l, x => by
    unfold slotK
    split
    · exact Nat.succ_le_succ (slotK_le l x)
    · exact Nat.zero_le _
theorem slotK_lo : ∀ (l : List Stm) (x : Stm) (i : Nat), i < slotK l x → slotB (l.getD i noStm) x = true
  | [], _, i, h => absurd h (Nat.not_lt_zero _)
  | a :: l, x, i, h => by
    unfold slotK at h
    split at h
    · rename_i hs
      cases i with
      | zero => exact hs
      | succ i => exact slotK_lo l x i (Nat.lt_of_succ_lt_succ h)
    · exact absurd h (Nat.not_lt_zero _)
theorem slotK_hi : ∀ (l : List Stm) (x : Stm), slotK l x < l.length → slotB (l.getD (slotK l x) noStm) x = false
  | [], _, h => absurd h (Nat.not_lt_zero _)
  | a :: l, x, h => by
    unfold slotK at h ⊢
    split
    · rename_i hs
      rw [if_pos hs] at h
      exact slotK_hi l x (Nat.lt_of_succ_lt_succ h)
    · rename_i hs
      simpa using hs
def putL (l : List Stm) (x : Stm) : List Stm := if slotK l x < l.length ∧ sameS (l.getD (slotK l x) noStm) x = true then l else l.take (slotK l x) ++ x :: l.drop (slotK l x)
def ownStep (au : Int) (l : List Stm) (x : Stm) : List Stm := if x.author = au ∧ checkV x = 0 ∧ sealedB x = true then putL l x else l
/-- The statements of an author that are well formed and sealed, each once, in order. -/
def ownL (au : Int) (l : List Stm) : List Stm := l.foldl (ownStep au) []
theorem ownL_app (au : Int) (l : List Stm) (x : Stm) : ownL au (l ++ [x]) = ownStep au (ownL au l) x := by unfold ownL; rw [List.foldl_append]; rfl
theorem putL_mem {l : List Stm} {x s : Stm} (h : s ∈ putL l x) : s = x ∨ s ∈ l := by
  unfold putL at h
  split at h
  · exact .inr h
  · rcases List.mem_append.1 h with h | h
    · exact .inr (List.mem_of_mem_take h)
    · rcases List.mem_cons.1 h with h | h
      · exact .inl h
      · exact .inr (List.mem_of_mem_drop h)
theorem putL_len (l : List Stm) (x : Stm) : (putL l x).length ≤ l.length + 1 := by
  unfold putL
  split
  · omega
  · have := slotK_le l x
    simp only [List.length_append, List.length_cons, List.length_take, List.length_drop]; omega
theorem ownFold_mem (au : Int) : ∀ (l m : List Stm) (s : Stm), s ∈ l.foldl (ownStep au) m → s ∈ m ∨ (s ∈ l ∧ s.author = au ∧ checkV s = 0 ∧ sealedB s = true)
  | [], m, s, h => .inl h
  | x :: l, m, s, h => by
    rcases ownFold_mem au l (ownStep au m x) s h with h | h
    · unfold ownStep at h
      split at h
      · rename_i hc
        rcases putL_mem h with h | h
        · exact .inr ⟨List.mem_cons.2 (.inl h), by rw [h]; exact hc⟩
        · exact .inl h
      · exact .inl h
    · exact .inr ⟨List.mem_cons_of_mem _ h.1, h.2⟩
theorem ownL_mem {au : Int} {l : List Stm} {s : Stm} (h : s ∈ ownL au l) : s ∈ l ∧ s.author = au ∧ checkV s = 0 ∧ sealedB s = true := by
  rcases ownFold_mem au l [] s h with h | h
  · cases h
  · exact h
theorem ownFold_len (au : Int) : ∀ (l m : List Stm), (l.foldl (ownStep au) m).length ≤ m.length + l.length
  | [], m => Nat.le_refl _
  | x :: l, m => by
    have h := ownFold_len au l (ownStep au m x)
    have h2 : (ownStep au m x).length ≤ m.length + 1 := by
      unfold ownStep
      split
      · exact putL_len m x
      · omega
    simp only [List.foldl_cons, List.length_cons]; omega
theorem ownL_len (au : Int) (l : List Stm) : (ownL au l).length ≤ l.length := by have := ownFold_len au l []; simpa [ownL] using this
theorem getD_s (l : List Pl) (i : Nat) : (l.map (·.s)).getD i noStm = (l.getD i noPl).s := by
  simp only [List.getD_eq_getElem?_getD, List.getElem?_map]
  cases l[i]? <;> rfl
/-- Cells of a block of its own, in every world that may come. -/
theorem box_futs {F : World → World → Prop} (hr : ∀ w, F w w) {W : World} {g : Nat} {cs : Array Value} {t : TypeId} {fr : Nat × Nat} (hF : ∀ w', F W w' → w'.heap[g]? = W.heap[g]?) (h : W.heap[g]? = some (.cells cs t fr)) (x : World) (j : Nat) : (fut F W x).cell? ⟨g, 0 + j, none⟩ = cs[j]? := by
  rw [Nat.zero_add]; exact cell_of_row _ _ j _ _ _ ((hF _ (fut_ok hr W x)).trans h)

/-- Their lists lie in blocks from B on. -/
def HiL (B : Nat) (l : List Pl) : Prop := ∀ p ∈ l, (∀ ad, p.A = some ad → B ≤ ad.block) ∧ (∀ ad, p.B = some ad → B ≤ ad.block)
theorem HiL.take {B : Nat} {l : List Pl} (h : HiL B l) (k : Nat) : HiL B (l.take k) := fun p hp => h p (List.mem_of_mem_take hp)
theorem HiL.drop {B : Nat} {l : List Pl} (h : HiL B l) (k : Nat) : HiL B (l.drop k) := fun p hp => h p (List.mem_of_mem_drop hp)
theorem HiL.app {B : Nat} {l m : List Pl} (h : HiL B l) (k : HiL B m) : HiL B (l ++ m) := fun p hp => by
  rcases List.mem_append.1 hp with hp | hp
  · exact h p hp
  · exact k p hp
theorem HiL.one {B C : Nat} {r : Pl} (hc : B ≤ C) (hA : ∀ ad, r.A = some ad → C ≤ ad.block) (hB : ∀ ad, r.B = some ad → C ≤ ad.block) : HiL B [r] := fun p hp => by
  rw [List.mem_singleton.1 hp]; exact ⟨fun ad e => Nat.le_trans hc (hA ad e), fun ad e => Nat.le_trans hc (hB ad e)⟩
theorem HiL.mono {B C : Nat} {l : List Pl} (h : HiL B l) (hc : C ≤ B) : HiL C l := fun p hp => ⟨fun ad e => Nat.le_trans hc ((h p hp).1 ad e), fun ad e => Nat.le_trans hc ((h p hp).2 ad e)⟩
theorem HiL.nil (B : Nat) : HiL B [] := fun _ h => (nomatch h)
set_option maxRecDepth 100000 in
set_option maxHeartbeats 4000000 in
theorem own_any (au : Int) (A : Option Addr) (n c : Nat) (l : List Pl) (w : World) (hl : LRow w A n c l) (hn : n ≤ 100000) (hs : ∀ p ∈ l, Small p.s) :
    Calls Tryz.prog 42 #[.int .i64 au, .slice A n c] w fun e w' => ∃ A2 c2 l', e = .returned (.slice A2 (List.length l') c2) ∧ l'.map (·.s) = ownL au (l.map (·.s)) ∧ LRow w' A2 l'.length c2 l' ∧ HiL w.heap.size l' ∧ Below w.heap.size w w' := by
  have HL := Lib.hid hl; have HLN := Lib.hid hl.len; have HS := Lib.hid hs
  clear hl hs
  go_enter Tryz.func42, Tryz.ntmps42
  go_wp2_with fail
  go_loopw [5, 6] (fun v i wr => ∃ (j : Nat) (A1 : Option Addr) (c1 : Nat) (l' : List Pl), j ≤ n ∧ v = .slice A1 l'.length c1 ∧ i = .int .i64 j ∧ Hid (HiL w.heap.size l') ∧ Hid (LRow wr A1 l'.length c1 l' ∧ l'.map (·.s) = ownL au ((l.take j).map (·.s)) ∧ Below w.heap.size w wr)) (fun _ i _ => n - (intOf i).toNat)
  case atStart => exact ⟨0, none, 0, [], Nat.zero_le _, rfl, rfl, Lib.hid (HiL.nil _), Lib.hid ⟨LRow.nil _, rfl, Below.refl _ _⟩⟩
  case round =>
    obtain ⟨j, A1, c1, l', hj, rfl, rfl, HHI, HQ⟩ := hrel
    by_cases hlt : j < n
    · have HLJ := Lib.hid (HL.out.later HQ.out.2.2)
      obtain ⟨b, off, hA, hc⟩ := HLJ.out.cells j hlt
      subst hA
      have HT : Hid (ownL au ((l.take (j + 1)).map (·.s)) = ownStep au (l'.map (·.s)) (l.getD j noPl).s) := Lib.hid (by
        rw [List.take_add_one, List.map_append, List.getElem?_eq_getElem (by rw [HLN.out]; exact hlt), List.getD_eq_getElem?_getD, List.getElem?_eq_getElem (by rw [HLN.out]; exact hlt), HQ.out.2.1]
        exact ownL_app au _ _)
      have HSL : Hid (∀ q ∈ l', Small q.s) := Lib.hid fun q hq => by
        have h1 : q.s ∈ ownL au ((l.take j).map (·.s)) := by rw [← HQ.out.2.1]; exact List.mem_map_of_mem hq
        obtain ⟨r, hr, he⟩ := List.mem_map.1 (ownL_mem h1).1
        rw [← he]; exact HS.out r (List.mem_of_mem_take hr)
      have hle : l'.length ≤ n := by
        have h1 := congrArg List.length HQ.out.2.1
        have h2 := ownL_len au ((l.take j).map (·.s))
        simp only [List.length_map, List.length_take] at h1 h2; omega
      have HOK := Lib.hid (HLJ.out.at j hlt); have HSM := Lib.hid (HS.out _ (HL.out.get j hlt))
      have HC := Lib.hid hc
      clear hc HLJ
      generalize l.getD j noPl = p at *
      have hlt2 : (j : Int) < (n : Int) := by omega
      go_upto_region 6 with (first | (refine wpList_load_cells rfl 48 (.tmp 17) rfl b (off + j * 13) rfl p.arr _ Tryz.underlying48 rfl p.info HC.out ?_) | (refine wpList_store_new rfl 48 (.tmp 7) (.tmp 18) rfl 48 _ p.arr rfl rfl p.info (by rw [Pl.size]; rfl) p.one ?_))
      have HNW := Lib.hid (one_new wr (.cells p.arr 48))
      have HG : Hid ((wr.alloc (.cells p.arr 48)).heap[wr.heap.size]? = some (.cells p.arr 48 (0, 0))) := Lib.hid (heap_alloc_new _ _)
      have HB0 : Hid (Below w.heap.size w (wr.alloc (.cells p.arr 48))) := Lib.hid (HQ.out.2.2.trans (HNW.out.mono HQ.out.2.2.size))
      have HL1 := Lib.hid (HQ.out.1.later HNW.out); have HP1 := Lib.hid (HOK.out.later HNW.out)
      have HLM := Lib.hid HQ.out.2.1
      clear HQ HC HNW HOK
      generalize wr.alloc (.cells p.arr 48) = y0 at *
      generalize wr.heap.size = g at *
      have HGL : Hid (g < y0.heap.size) := Lib.hid (Array.getElem?_eq_some_iff.1 HG.out).1
      have HCK : Hid (∀ y, Below y0.heap.size y0 y → Calls Tryz.prog 63 #[.agg p.arr] y (SaysL (.int .i64 (checkV p.s)) y)) := Lib.hid fun y h => checkP_any p y (HP1.out.later h) HSM.out
      have HSE : Hid (∀ y, Below y0.heap.size y0 y → Calls Tryz.prog 64 #[.agg p.arr] y (SaysL (.bool (sealedB p.s)) y)) := Lib.hid fun y h => sealedP_any p y (HP1.out.later h) HSM.out
      have HCP : Hid (∀ y, Below y0.heap.size y0 y → Calls Tryz.prog 44 #[.agg p.arr] y (GivesP y p.s)) := Lib.hid fun y h => copyP_any p y (HP1.out.later h) HSM.out
      have HSA : Hid (∀ y q, q ∈ l' → Below y0.heap.size y0 y → Calls Tryz.prog 65 #[.agg q.arr, .agg p.arr] y (SaysL (.bool (sameS q.s p.s)) y)) := Lib.hid fun y q hq h => sameP_any q p y ((HL1.out.ok q hq).later h) (HP1.out.later h) (HSL.out q hq)
      have hc0 : y0.cell? ⟨g, 0, none⟩ = some (.int .i64 p.s.author) := (cell_of_row _ _ 0 _ _ _ HG.out).trans rfl
      by_cases ha : p.s.author = au
      · have ha2 : (p.s.author != au) = false := by simp [ha]
        have HA := Lib.hid ha
        clear ha
        have HG1 := HG
        go_wp2_with (refine wpList_load_rowG rfl 48 (.tmp 7) rfl g rfl 48 p.arr (0, 0) _ HG1.out Tryz.underlying48 rfl p.info ?_)
        refine (HCK.out y0 (Below.refl _ _)).mono ?_
        clear hc0 HG1
        rintro e w1 ⟨rfl, hb⟩
        have HB1 := Lib.hid hb; clear hb
        have HG1 := Lib.hid ((HB1.out.block _ HGL.out).trans HG.out)
        by_cases hk : checkV p.s = 0
        · have HK := Lib.hid hk
          have hk2 : (checkV p.s != 0) = false := by simp [hk]
          rw [hk]
          clear hk hk2
          go_wp2_with (refine wpList_load_rowG rfl 48 (.tmp 7) rfl g rfl 48 p.arr (0, 0) _ HG1.out Tryz.underlying48 rfl p.info ?_)
          refine (HSE.out w1 HB1.out).mono ?_
          clear HG1
          rintro e w2 ⟨rfl, hb⟩
          have HB2 := Lib.hid (HB1.out.trans (hb.mono HB1.out.size)); clear hb HB1
          by_cases hse : sealedB p.s = true
          · have HSD := Lib.hid hse
            rw [hse]
            clear hse
            go_wp2_with fail
            have HKP : Hid (slotK (l'.map (·.s)) p.s ≤ l'.length ∧ (∀ i, i < slotK (l'.map (·.s)) p.s → slotB (l'.getD i noPl).s p.s = true) ∧ (slotK (l'.map (·.s)) p.s < l'.length → slotB (l'.getD (slotK (l'.map (·.s)) p.s) noPl).s p.s = false)) := Lib.hid
              ⟨by have := slotK_le (l'.map (·.s)) p.s; simpa using this, fun i h => by rw [← getD_s]; exact slotK_lo _ _ i h, fun h => by rw [← getD_s]; exact slotK_hi _ _ (by simpa using h)⟩
            have HPU : Hid (ownStep au (l'.map (·.s)) p.s = if slotK (l'.map (·.s)) p.s < l'.length ∧ sameS (l'.getD (slotK (l'.map (·.s)) p.s) noPl).s p.s = true then l'.map (·.s) else (l'.take (slotK (l'.map (·.s)) p.s)).map (·.s) ++ p.s :: (l'.drop (slotK (l'.map (·.s)) p.s)).map (·.s)) := Lib.hid (by
              rw [ownStep, if_pos ⟨HA.out, HK.out, HSD.out⟩, putL, getD_s, List.length_map, List.map_take, List.map_drop])
            generalize slotK (l'.map (·.s)) p.s = K at HKP HPU
            have hK := HKP.out.1
            clear HCK HSE HA HK HSD
            go_loopw [8] (fun i wr => ∃ q : Nat, q ≤ K ∧ i = .int .i64 q ∧ Hid (Below y0.heap.size y0 wr)) (fun i _ => K - (intOf i).toNat)
            case atStart => exact ⟨0, Nat.zero_le _, rfl, HB2⟩
            case round =>
              obtain ⟨q, hq, rfl, HQ⟩ := hrel
              clear HB2
              by_cases hqK : q < K
              · have hsb := HKP.out.2.1 q hqK
                have hql : q < l'.length := by omega
                have hlt9 : (q : Int) < (l'.length : Int) := by omega
                by_cases g1 : (l'.getD q noPl).s.number < p.s.number
                · have e1 : decide ((l'.getD q noPl).s.number < p.s.number) = true := by simpa using g1
                  clear g1
                  clear hsb
                  go_wp2_with fail
                  refine wp_region_grow (by kernel_rfl) Later Later.refl (fun _ _ _ => Later.trans) [0, 1, 2, 3, 4, 5, 6, 7, 8, 9, 10, 11, 12, 13, 14, 15, 16, 17, 18, 19, 20, 21, 22, 23, 24, 25, 26, 27, 28, 29, 30, 31, 32, 33, 34, 35] [] (by kernel_rfl) (by kernel_rfl) (by kernel_rfl) ?_
                  simp only [List.map_cons, List.map_nil, pick, List.getD_cons_zero, List.getD_cons_succ]
                  have HB3 : Hid (Below y0.heap.size y0 wr.drew) := Lib.hid HQ.out.drew
                  clear HQ
                  generalize wr.drew = z0 at *
                  refine wpGrow_nil ?_
                  obtain ⟨b2, off2, hA2, hf⟩ := LRow.futs (F := Later) Later.refl (fun _ h => h) (HL1.out.later HB3.out) q hql
                  subst hA2
                  generalize hae : l'.getD q noPl = a at *
                  have HAE := Lib.hid hae
                  clear hae
                  have hf1 : ∀ x, (fut Later z0 x).cell? ⟨b2, off2 + q * 13 + 1, none⟩ = some (.int .i64 a.s.number) := fun x => hf x 1 (by rw [Pl.size]; decide)
                  have hf12 : ∀ x, (fut Later z0 x).cell? ⟨b2, off2 + q * 13 + 12, none⟩ = some (.string a.s.dig) := fun x => hf x 12 (by rw [Pl.size]; decide)
                  have hg1 : ∀ x, (fut Later z0 x).cell? ⟨g, 1, none⟩ = some (.int .i64 p.s.number) := fun x => (cell_of_row _ _ 1 _ _ _ (((fut_ok Later.refl z0 x).block _ (Nat.lt_of_lt_of_le HGL.out HB3.out.size)).trans ((HB3.out.block _ HGL.out).trans HG.out))).trans rfl
                  have hg12 : ∀ x, (fut Later z0 x).cell? ⟨g, 12, none⟩ = some (.string p.s.dig) := fun x => (cell_of_row _ _ 12 _ _ _ (((fut_ok Later.refl z0 x).block _ (Nat.lt_of_lt_of_le HGL.out HB3.out.size)).trans ((HB3.out.block _ HGL.out).trans HG.out))).trans rfl
                  clear hf
                  repeat (go_big_quiet_step (fail))
                  refine wpQuiet_nil ?_
                  clear hf1 hf12 hg1 hg12
                  go_wp2_with fail
                  exact ⟨⟨q + 1, by omega, by go_num, HB3⟩, by simp [intOf]; omega⟩
                · by_cases g2 : (l'.getD q noPl).s.number = p.s.number
                  · have e1 : decide ((l'.getD q noPl).s.number < p.s.number) = false := by simpa using g1
                    have e2 : ((l'.getD q noPl).s.number == p.s.number) = true := by simpa using g2
                    have e3 : Op.bytesLess (l'.getD q noPl).s.dig.toList p.s.dig.toList = true := by rw [slotB_eq, if_neg g1, if_pos g2] at hsb; exact hsb
                    clear g1 g2
                    clear hsb
                    go_wp2_with fail
                    refine wp_region_grow (by kernel_rfl) Later Later.refl (fun _ _ _ => Later.trans) [0, 1, 2, 3, 4, 5, 6, 7, 8, 9, 10, 11, 12, 13, 14, 15, 16, 17, 18, 19, 20, 21, 22, 23, 24, 25, 26, 27, 28, 29, 30, 31, 32, 33, 34, 35] [] (by kernel_rfl) (by kernel_rfl) (by kernel_rfl) ?_
                    simp only [List.map_cons, List.map_nil, pick, List.getD_cons_zero, List.getD_cons_succ]
                    have HB3 : Hid (Below y0.heap.size y0 wr.drew) := Lib.hid HQ.out.drew
                    clear HQ
                    generalize wr.drew = z0 at *
                    refine wpGrow_nil ?_
                    obtain ⟨b2, off2, hA2, hf⟩ := LRow.futs (F := Later) Later.refl (fun _ h => h) (HL1.out.later HB3.out) q hql
                    subst hA2
                    generalize hae : l'.getD q noPl = a at *
                    have HAE := Lib.hid hae
                    clear hae
                    have hf1 : ∀ x, (fut Later z0 x).cell? ⟨b2, off2 + q * 13 + 1, none⟩ = some (.int .i64 a.s.number) := fun x => hf x 1 (by rw [Pl.size]; decide)
                    have hf12 : ∀ x, (fut Later z0 x).cell? ⟨b2, off2 + q * 13 + 12, none⟩ = some (.string a.s.dig) := fun x => hf x 12 (by rw [Pl.size]; decide)
                    have hg1 : ∀ x, (fut Later z0 x).cell? ⟨g, 1, none⟩ = some (.int .i64 p.s.number) := fun x => (cell_of_row _ _ 1 _ _ _ (((fut_ok Later.refl z0 x).block _ (Nat.lt_of_lt_of_le HGL.out HB3.out.size)).trans ((HB3.out.block _ HGL.out).trans HG.out))).trans rfl
                    have hg12 : ∀ x, (fut Later z0 x).cell? ⟨g, 12, none⟩ = some (.string p.s.dig) := fun x => (cell_of_row _ _ 12 _ _ _ (((fut_ok Later.refl z0 x).block _ (Nat.lt_of_lt_of_le HGL.out HB3.out.size)).trans ((HB3.out.block _ HGL.out).trans HG.out))).trans rfl
                    clear hf
                    repeat (go_big_quiet_step (fail))
                    refine wpQuiet_nil ?_
                    clear hf1 hf12 hg1 hg12
                    go_wp2_with fail
                    exact ⟨⟨q + 1, by omega, by go_num, HB3⟩, by simp [intOf]; omega⟩
                  · rw [slotB_eq, if_neg g1, if_neg g2] at hsb; cases hsb
              · have hqe : K = q := by omega
                subst hqe
                by_cases hql : K < l'.length
                · have hsb := HKP.out.2.2 hql
                  have hlt9 : (K : Int) < (l'.length : Int) := by omega
                  have HAM : Hid (l'.getD K noPl ∈ l') := Lib.hid (by rw [List.getD_eq_getElem?_getD, List.getElem?_eq_getElem hql]; exact List.getElem_mem _)
                  clear HKP
                  by_cases g1 : (l'.getD K noPl).s.number < p.s.number
                  · rw [slotB_eq, if_pos g1] at hsb; cases hsb
                  · by_cases g2 : (l'.getD K noPl).s.number = p.s.number
                    · have e1 : decide ((l'.getD K noPl).s.number < p.s.number) = false := by simpa using g1
                      have e2 : ((l'.getD K noPl).s.number == p.s.number) = true := by simpa using g2
                      have e3 : Op.bytesLess (l'.getD K noPl).s.dig.toList p.s.dig.toList = false := by rw [slotB_eq, if_neg g1, if_pos g2] at hsb; exact hsb
                      clear g1 g2
                      clear hsb
                      go_wp2_with fail
                      refine wp_region_grow (by kernel_rfl) Later Later.refl (fun _ _ _ => Later.trans) [0, 1, 2, 3, 4, 5, 6, 7, 8, 9, 10, 11, 12, 13, 14, 15, 16, 17, 18, 19, 20, 21, 22, 23, 24, 25, 26, 27, 28, 29, 30, 31, 32, 33, 34, 35] [] (by kernel_rfl) (by kernel_rfl) (by kernel_rfl) ?_
                      simp only [List.map_cons, List.map_nil, pick, List.getD_cons_zero, List.getD_cons_succ]
                      have HB3 : Hid (Below y0.heap.size y0 wr.drew) := Lib.hid HQ.out.drew
                      clear HQ
                      generalize wr.drew = z0 at *
                      refine wpGrow_nil ?_
                      obtain ⟨b2, off2, hA2, hf⟩ := LRow.futs (F := Later) Later.refl (fun _ h => h) (HL1.out.later HB3.out) K hql
                      subst hA2
                      generalize hae : l'.getD K noPl = a at *
                      have HAE := Lib.hid hae
                      clear hae
                      have hf1 : ∀ x, (fut Later z0 x).cell? ⟨b2, off2 + K * 13 + 1, none⟩ = some (.int .i64 a.s.number) := fun x => hf x 1 (by rw [Pl.size]; decide)
                      have hf12 : ∀ x, (fut Later z0 x).cell? ⟨b2, off2 + K * 13 + 12, none⟩ = some (.string a.s.dig) := fun x => hf x 12 (by rw [Pl.size]; decide)
                      have hg1 : ∀ x, (fut Later z0 x).cell? ⟨g, 1, none⟩ = some (.int .i64 p.s.number) := fun x => (cell_of_row _ _ 1 _ _ _ (((fut_ok Later.refl z0 x).block _ (Nat.lt_of_lt_of_le HGL.out HB3.out.size)).trans ((HB3.out.block _ HGL.out).trans HG.out))).trans rfl
                      have hg12 : ∀ x, (fut Later z0 x).cell? ⟨g, 12, none⟩ = some (.string p.s.dig) := fun x => (cell_of_row _ _ 12 _ _ _ (((fut_ok Later.refl z0 x).block _ (Nat.lt_of_lt_of_le HGL.out HB3.out.size)).trans ((HB3.out.block _ HGL.out).trans HG.out))).trans rfl
                      clear hf
                      repeat (go_big_quiet_step (fail))
                      refine wpQuiet_nil ?_
                      clear hf1 hf12 hg1 hg12
                      go_wp2_with fail
                      refine wp_region_grow (by kernel_rfl) Later Later.refl (fun _ _ _ => Later.trans) [11] [([0, 1, 2, 3, 4, 5, 6, 7, 8, 9], 10)] (by kernel_rfl) (by kernel_rfl) (by kernel_rfl) ?_
                      simp only [List.map_cons, List.map_nil, pick, List.getD_cons_zero, List.getD_cons_succ]
                      have HB4 : Hid (Below y0.heap.size y0 z0.drew) := Lib.hid HB3.out.drew
                      clear HB3
                      generalize z0.drew = z4 at *
                      obtain ⟨b3, off3, hA3, hf⟩ := LRow.futs (F := Later) Later.refl (fun _ h => h) (HL1.out.later HB4.out) K hql
                      rw [HAE.out] at hf
                      have hf2 : ∀ x, (loadVar 48 ⟨b2, off2 + K * 13, none⟩).run Tryz.prog (fut Later z4 x) = .ok (.agg a.arr) (fut Later z4 x) := by
                        injection hA3 with hA3
                        injection hA3 with h1 h2
                        subst h1 h2
                        exact cells_futs hf
                      have hg2 : ∀ x, (loadVar 48 ⟨g, 0, none⟩).run Tryz.prog (fut Later z4 x) = .ok (.agg p.arr) (fut Later z4 x) := cells_futs (p := p) (off := 0) fun x j _ => box_futs (F := Later) Later.refl (fun _ h => h.block _ (Nat.lt_of_lt_of_le HGL.out HB4.out.size)) ((HB4.out.block _ HGL.out).trans HG.out) x j
                      clear hf hA3
                      refine wpGrow_cons ?_
                      repeat (first | (refine wpQuiet_load rfl 48 (.tmp 78) rfl ⟨b2, off2 + K * 13, none⟩ rfl (.agg a.arr) (fun w' h => by obtain ⟨x, rfl⟩ := h; exact hf2 x) ?_; simp only [Act.put, List.setIfInBounds_toArray, List.set_cons_succ, List.set_cons_zero]) | (refine wpQuiet_load rfl 48 (.tmp 7) rfl ⟨g, 0, none⟩ rfl (.agg p.arr) (fun w' h => by obtain ⟨x, rfl⟩ := h; exact hg2 x) ?_; simp only [Act.put, List.setIfInBounds_toArray, List.set_cons_succ, List.set_cons_zero]) | go_big_quiet_step (fail))
                      refine wpQuiet_nil ?_
                      clear hf2 hg2
                      go_wp2_with fail
                      refine (HSA.out z4 a HAM.out HB4.out).mono ?_
                      rintro e w5 ⟨rfl, hb⟩
                      have HF : Hid (Later z4 w5) := Lib.hid hb; have HB6 := Lib.hid (HB4.out.trans (hb.mono HB4.out.size)); clear hb HB4
                      by_cases hbb : sameS a.s p.s = true
                      · have HPE : Hid (ownStep au (l'.map (·.s)) p.s = l'.map (·.s)) := Lib.hid (by rw [HPU.out, if_pos ⟨hql, hbb⟩])
                        rw [hbb]
                        clear hbb
                        go_wp2_with fail
                        refine pieceEnd_normal ⟨HF.out, ?_⟩
                        clear HF
                        refine wpGrow_nil ?_
                        repeat (go_big_quiet_step (fail))
                        refine wpQuiet_nil ?_
                        go_wp2_with fail
                        exact ⟨⟨j + 1, _, c1, l', hlt, rfl, by go_num, HHI, Lib.hid ⟨HL1.out.later HB6.out, by rw [HT.out, HPE.out], HB0.out.trans (HB6.out.mono HB0.out.size)⟩⟩, by simp [intOf]; omega⟩
                      · have HPE : Hid (ownStep au (l'.map (·.s)) p.s = (l'.take K).map (·.s) ++ p.s :: (l'.drop K).map (·.s)) := Lib.hid (by rw [HPU.out, if_neg fun h => hbb h.2])
                        rw [show sameS a.s p.s = false by simpa using hbb]
                        clear hbb
                        go_wp2_with fail
                        refine pieceEnd_normal ⟨HF.out, ?_⟩
                        clear HF
                        refine wpGrow_nil ?_
                        repeat (go_big_quiet_step (fail))
                        refine wpQuiet_nil ?_
                        clear HAE HAM
                        go_wp2_with fail
                        have hs1 := fun w' => run_slice_to (P := Tryz.prog) (t := 27) Tryz.underlying27 stm_size6 (w0 := y0) HL1.out.row (i := (K : Int)) rfl hK .i64 w'
                        have hs2 := fun w' => run_slice_from (P := Tryz.prog) (t := 27) Tryz.underlying27 stm_size6 (A := (some ⟨b2, off2, none⟩)) (n := l'.length) (c := c1) (k := K) (i := (K : Int)) rfl hK .i64 w'
                        refine wp_region_grow (by kernel_rfl) (Below w5.drew.heap.size) (Below.refl w5.drew.heap.size) (fun _ _ _ => Below.trans) [12] [([0, 1, 2, 4, 8, 9, 10], 3), ([], 5), ([], 6), ([], 7), ([], 11)] (by kernel_rfl) (by kernel_rfl) (by kernel_rfl) ?_
                        simp only [List.map_cons, List.map_nil, pick, List.getD_cons_zero, List.getD_cons_succ]
                        have HB5 : Hid (Below y0.heap.size y0 w5.drew) := Lib.hid HB6.out.drew
                        clear HB6
                        generalize w5.drew = u0 at *
                        have HLT := Lib.hid ((HL1.out.later HB5.out).take K hK); have HLD := Lib.hid ((HL1.out.later HB5.out).drop K hK)
                        have hk1 : (l'.take K).length = K := by rw [List.length_take]; omega
                        have hk2 : (l'.drop K).length = l'.length - K := List.length_drop
                        generalize dropA (some ⟨b2, off2, none⟩) c1 K 13 = AD at hs2 HLD
                        have HH1 := Lib.hid (HHI.out.take K); have HH2 := Lib.hid (HHI.out.drop K)
                        generalize l'.take K = l1 at *
                        generalize l'.drop K = l2 at *
                        have hgl : ∀ x, (loadVar 48 ⟨g, 0, none⟩).run Tryz.prog (fut (Below u0.heap.size) u0 x) = .ok (.agg p.arr) (fut (Below u0.heap.size) u0 x) := cells_futs (p := p) (off := 0) fun x j _ => box_futs (F := Below u0.heap.size) (Below.refl u0.heap.size) (fun _ h => h.block _ (Nat.lt_of_lt_of_le HGL.out HB5.out.size)) ((HB5.out.block _ HGL.out).trans HG.out) x j
                        refine wpGrow_cons ?_
                        repeat (first | (refine wpQuiet_load rfl 48 (.tmp 7) rfl ⟨g, 0, none⟩ rfl (.agg p.arr) (fun w' h => by obtain ⟨x, rfl⟩ := h; exact hgl x) ?_; simp only [Act.put, List.setIfInBounds_toArray, List.set_cons_succ, List.set_cons_zero]) | go_big_quiet_step (fail))
                        refine wpQuiet_nil ?_
                        clear hs1 hs2 hgl
                        go_wp2_with (at_builtin; go_must (refine wpList_app u0 rfl (.const (.slice none 0 0)) (.tmp 85) 27 27 48 rfl u0.heap.size Tryz.underlying27 stm_info rfl _ 0 [] (World.ownsRow_nil _ _ _ _) rfl _ K (plsC l1) (Row.src HLT.out.row Tryz.underlying27 (plsC_one _)) rfl (by unfold maxLen; omega) (by omega) (Nat.le_refl _) ?_); intro v1 z1 ho hb; rw [Nat.zero_add, List.nil_append, ← hk1] at ho; have HO1 : Hid (LOwn z1 u0.heap.size v1 l1) := Lib.hid ⟨ho, fun r hr => ⟨(HLT.out.ok r hr).later hb, (HLT.out.ok r hr).clear (own_ge ho)⟩⟩; have HU := Lib.hid hb; clear ho hb)
                        refine pieceEnd_normal ⟨HU.out, ?_⟩
                        refine wpGrow_cons ?_
                        refine wpQuiet_nil ?_
                        go_wp2_with fail
                        refine (HCP.out z1 (HB5.out.trans (HU.out.mono HB5.out.size))).mono ?_
                        rintro e z2 ⟨r, rfl, hrs, hro, hna, hnb, hb⟩
                        have HHR : Hid (HiL w.heap.size [r]) := Lib.hid (HiL.one (Nat.le_trans HB0.out.size (Nat.le_trans HB5.out.size HU.out.size)) hna hnb)
                        have HRS := Lib.hid hrs; have HRO := Lib.hid hro
                        have HCL := Lib.hid (clear_new (q := r) hna hnb (own_lt HO1.out.own))
                        have HF : Hid (Below u0.heap.size z1 z2) := Lib.hid (hb.mono HU.out.size)
                        have HO2 := Lib.hid (HO1.out.later hb); replace HU := Lib.hid (HU.out.trans HF.out)
                        clear hrs hro hna hnb hb HO1
                        go_wp2_with fail
                        refine pieceEnd_normal ⟨HF.out, ?_⟩
                        clear HF
                        refine wpGrow_cons ?_
                        refine wpQuiet_nil ?_
                        have hvs : r.arr.size = 13 := rfl
                        go_wp2_with fail
                        (first | rw [fold13] | (rw [← hvs, fold13]))
                        refine pieceEnd_normal ⟨(one_new z2 _).mono HU.out.size, ?_⟩
                        have HNW := Lib.hid (one_new z2 (.cells r.arr 48))
                        have HR3 : Hid (Row (z2.alloc (.cells r.arr 48)) (some ⟨z2.heap.size, 0, none⟩) 1 1 13 (plsC [r])) := Lib.hid (Row.of_block (heap_alloc_new _ _) rfl)
                        replace HRO := Lib.hid (HRO.out.later HNW.out)
                        have HO3 := Lib.hid (HO2.out.later HNW.out)
                        replace HU := Lib.hid (HU.out.trans (HNW.out.mono HU.out.size))
                        clear HO2 HNW
                        generalize z2.alloc (.cells r.arr 48) = z3 at *
                        refine wpGrow_cons ?_
                        refine wpQuiet_nil ?_
                        go_wp2_with (at_builtin; go_must (refine wpList_app2 z3 rfl (.tmp 86) (.tmp 89) 27 27 48 rfl u0.heap.size Tryz.underlying27 stm_info rfl _ l1.length (plsC l1) HO3.out.own rfl (.slice (some ⟨z2.heap.size, 0, none⟩) 1 1) 1 (plsC [r]) (Row.src HR3.out Tryz.underlying27 (plsC_one _)) rfl (by unfold maxLen; omega) (by omega) HU.out.size ?_); intro v4 z4 ho hb hkp hv; have HO4 := Lib.hid (HO3.out.app (m := [r]) (fun x hx => by rw [List.mem_singleton.1 hx]; exact ⟨HRO.out, HCL.out⟩) ho hkp hv); have HF : Hid (Below u0.heap.size z3 z4) := Lib.hid hb; replace HU := Lib.hid (HU.out.trans hb); clear ho hb hkp hv)
                        refine pieceEnd_normal ⟨HF.out, ?_⟩
                        clear HF HR3 HO3
                        refine wpGrow_cons ?_
                        refine wpQuiet_nil ?_
                        have HD4 := Lib.hid (HLD.out.later HU.out)
                        have HC4 : Hid (∀ x ∈ l2, PlOk z4 x ∧ Clear v4 x) := Lib.hid fun x hx => ⟨HD4.out.ok x hx, (HLD.out.ok x hx).clear (own_ge HO4.out.own)⟩
                        have hk4 : (l1 ++ [r]).length = K + 1 := by rw [List.length_append, hk1]; rfl
                        go_wp2_with (at_builtin; go_must (refine wpList_app2 z4 rfl (.tmp 90) (.tmp 93) 27 27 48 rfl u0.heap.size Tryz.underlying27 stm_info rfl _ (l1 ++ [r]).length _ HO4.out.own rfl _ (l'.length - K) (plsC l2) (Row.src HD4.out.row Tryz.underlying27 (plsC_one _)) rfl (by unfold maxLen; omega) (by omega) HU.out.size ?_); intro v5 z5 ho hb hkp hv; rw [← hk2] at ho; have HO5 := Lib.hid (HO4.out.app (m := l2) HC4.out ho hkp hv); have HF : Hid (Below u0.heap.size z4 z5) := Lib.hid hb; replace HU := Lib.hid (HU.out.trans hb); clear ho hb hkp hv)
                        refine pieceEnd_normal ⟨HF.out, ?_⟩
                        clear HF HO4 HD4 HC4
                        refine wpGrow_nil ?_
                        repeat (go_big_quiet_step (fail))
                        refine wpQuiet_nil ?_
                        go_wp2_with fail
                        obtain ⟨A5, c5, hv5, hr5⟩ := HO5.out.row
                        subst hv5
                        exact ⟨⟨j + 1, A5, c5, l1 ++ [r] ++ l2, hlt, rfl, by go_num, Lib.hid ((HH1.out.app HHR.out).app HH2.out), Lib.hid ⟨hr5, by rw [HT.out, HPE.out, List.map_append, List.map_append, List.map_cons, List.map_nil, HRS.out, List.append_assoc]; rfl, HB0.out.trans ((HB5.out.trans (HU.out.mono HB5.out.size)).mono HB0.out.size)⟩⟩, by simp [intOf]; omega⟩
                    · have e1 : decide ((l'.getD K noPl).s.number < p.s.number) = false := by simpa using g1
                      have e2 : ((l'.getD K noPl).s.number == p.s.number) = false := by simpa using g2
                      clear g1 g2
                      clear hsb
                      go_wp2_with fail
                      refine wp_region_grow (by kernel_rfl) Later Later.refl (fun _ _ _ => Later.trans) [0, 1, 2, 3, 4, 5, 6, 7, 8, 9, 10, 11, 12, 13, 14, 15, 16, 17, 18, 19, 20, 21, 22, 23, 24, 25, 26, 27, 28, 29, 30, 31, 32, 33, 34, 35] [] (by kernel_rfl) (by kernel_rfl) (by kernel_rfl) ?_
                      simp only [List.map_cons, List.map_nil, pick, List.getD_cons_zero, List.getD_cons_succ]
                      have HB3 : Hid (Below y0.heap.size y0 wr.drew) := Lib.hid HQ.out.drew
                      clear HQ
                      generalize wr.drew = z0 at *
                      refine wpGrow_nil ?_
                      obtain ⟨b2, off2, hA2, hf⟩ := LRow.futs (F := Later) Later.refl (fun _ h => h) (HL1.out.later HB3.out) K hql
                      subst hA2
                      generalize hae : l'.getD K noPl = a at *
                      have HAE := Lib.hid hae
                      clear hae
                      have hf1 : ∀ x, (fut Later z0 x).cell? ⟨b2, off2 + K * 13 + 1, none⟩ = some (.int .i64 a.s.number) := fun x => hf x 1 (by rw [Pl.size]; decide)
                      have hf12 : ∀ x, (fut Later z0 x).cell? ⟨b2, off2 + K * 13 + 12, none⟩ = some (.string a.s.dig) := fun x => hf x 12 (by rw [Pl.size]; decide)
                      have hg1 : ∀ x, (fut Later z0 x).cell? ⟨g, 1, none⟩ = some (.int .i64 p.s.number) := fun x => (cell_of_row _ _ 1 _ _ _ (((fut_ok Later.refl z0 x).block _ (Nat.lt_of_lt_of_le HGL.out HB3.out.size)).trans ((HB3.out.block _ HGL.out).trans HG.out))).trans rfl
                      have hg12 : ∀ x, (fut Later z0 x).cell? ⟨g, 12, none⟩ = some (.string p.s.dig) := fun x => (cell_of_row _ _ 12 _ _ _ (((fut_ok Later.refl z0 x).block _ (Nat.lt_of_lt_of_le HGL.out HB3.out.size)).trans ((HB3.out.block _ HGL.out).trans HG.out))).trans rfl
                      clear hf
                      repeat (go_big_quiet_step (fail))
                      refine wpQuiet_nil ?_
                      clear hf1 hf12 hg1 hg12
                      go_wp2_with fail
                      refine wp_region_grow (by kernel_rfl) Later Later.refl (fun _ _ _ => Later.trans) [11] [([0, 1, 2, 3, 4, 5, 6, 7, 8, 9], 10)] (by kernel_rfl) (by kernel_rfl) (by kernel_rfl) ?_
                      simp only [List.map_cons, List.map_nil, pick, List.getD_cons_zero, List.getD_cons_succ]
                      have HB4 : Hid (Below y0.heap.size y0 z0.drew) := Lib.hid HB3.out.drew
                      clear HB3
                      generalize z0.drew = z4 at *
                      obtain ⟨b3, off3, hA3, hf⟩ := LRow.futs (F := Later) Later.refl (fun _ h => h) (HL1.out.later HB4.out) K hql
                      rw [HAE.out] at hf
                      have hf2 : ∀ x, (loadVar 48 ⟨b2, off2 + K * 13, none⟩).run Tryz.prog (fut Later z4 x) = .ok (.agg a.arr) (fut Later z4 x) := by
                        injection hA3 with hA3
                        injection hA3 with h1 h2
                        subst h1 h2
                        exact cells_futs hf
                      have hg2 : ∀ x, (loadVar 48 ⟨g, 0, none⟩).run Tryz.prog (fut Later z4 x) = .ok (.agg p.arr) (fut Later z4 x) := cells_futs (p := p) (off := 0) fun x j _ => box_futs (F := Later) Later.refl (fun _ h => h.block _ (Nat.lt_of_lt_of_le HGL.out HB4.out.size)) ((HB4.out.block _ HGL.out).trans HG.out) x j
                      clear hf hA3
                      refine wpGrow_cons ?_
                      repeat (first | (refine wpQuiet_load rfl 48 (.tmp 78) rfl ⟨b2, off2 + K * 13, none⟩ rfl (.agg a.arr) (fun w' h => by obtain ⟨x, rfl⟩ := h; exact hf2 x) ?_; simp only [Act.put, List.setIfInBounds_toArray, List.set_cons_succ, List.set_cons_zero]) | (refine wpQuiet_load rfl 48 (.tmp 7) rfl ⟨g, 0, none⟩ rfl (.agg p.arr) (fun w' h => by obtain ⟨x, rfl⟩ := h; exact hg2 x) ?_; simp only [Act.put, List.setIfInBounds_toArray, List.set_cons_succ, List.set_cons_zero]) | go_big_quiet_step (fail))
                      refine wpQuiet_nil ?_
                      clear hf2 hg2
                      go_wp2_with fail
                      refine (HSA.out z4 a HAM.out HB4.out).mono ?_
                      rintro e w5 ⟨rfl, hb⟩
                      have HF : Hid (Later z4 w5) := Lib.hid hb; have HB6 := Lib.hid (HB4.out.trans (hb.mono HB4.out.size)); clear hb HB4
                      by_cases hbb : sameS a.s p.s = true
                      · have HPE : Hid (ownStep au (l'.map (·.s)) p.s = l'.map (·.s)) := Lib.hid (by rw [HPU.out, if_pos ⟨hql, hbb⟩])
                        rw [hbb]
                        clear hbb
                        go_wp2_with fail
                        refine pieceEnd_normal ⟨HF.out, ?_⟩
                        clear HF
                        refine wpGrow_nil ?_
                        repeat (go_big_quiet_step (fail))
                        refine wpQuiet_nil ?_
                        go_wp2_with fail
                        exact ⟨⟨j + 1, _, c1, l', hlt, rfl, by go_num, HHI, Lib.hid ⟨HL1.out.later HB6.out, by rw [HT.out, HPE.out], HB0.out.trans (HB6.out.mono HB0.out.size)⟩⟩, by simp [intOf]; omega⟩
                      · have HPE : Hid (ownStep au (l'.map (·.s)) p.s = (l'.take K).map (·.s) ++ p.s :: (l'.drop K).map (·.s)) := Lib.hid (by rw [HPU.out, if_neg fun h => hbb h.2])
                        rw [show sameS a.s p.s = false by simpa using hbb]
                        clear hbb
                        go_wp2_with fail
                        refine pieceEnd_normal ⟨HF.out, ?_⟩
                        clear HF
                        refine wpGrow_nil ?_
                        repeat (go_big_quiet_step (fail))
                        refine wpQuiet_nil ?_
                        clear HAE HAM
                        go_wp2_with fail
                        have hs1 := fun w' => run_slice_to (P := Tryz.prog) (t := 27) Tryz.underlying27 stm_size6 (w0 := y0) HL1.out.row (i := (K : Int)) rfl hK .i64 w'
                        have hs2 := fun w' => run_slice_from (P := Tryz.prog) (t := 27) Tryz.underlying27 stm_size6 (A := (some ⟨b2, off2, none⟩)) (n := l'.length) (c := c1) (k := K) (i := (K : Int)) rfl hK .i64 w'
                        refine wp_region_grow (by kernel_rfl) (Below w5.drew.heap.size) (Below.refl w5.drew.heap.size) (fun _ _ _ => Below.trans) [12] [([0, 1, 2, 4, 8, 9, 10], 3), ([], 5), ([], 6), ([], 7), ([], 11)] (by kernel_rfl) (by kernel_rfl) (by kernel_rfl) ?_
                        simp only [List.map_cons, List.map_nil, pick, List.getD_cons_zero, List.getD_cons_succ]
                        have HB5 : Hid (Below y0.heap.size y0 w5.drew) := Lib.hid HB6.out.drew
                        clear HB6
                        generalize w5.drew = u0 at *
                        have HLT := Lib.hid ((HL1.out.later HB5.out).take K hK); have HLD := Lib.hid ((HL1.out.later HB5.out).drop K hK)
                        have hk1 : (l'.take K).length = K := by rw [List.length_take]; omega
                        have hk2 : (l'.drop K).length = l'.length - K := List.length_drop
                        generalize dropA (some ⟨b2, off2, none⟩) c1 K 13 = AD at hs2 HLD
                        have HH1 := Lib.hid (HHI.out.take K); have HH2 := Lib.hid (HHI.out.drop K)
                        generalize l'.take K = l1 at *
                        generalize l'.drop K = l2 at *
                        have hgl : ∀ x, (loadVar 48 ⟨g, 0, none⟩).run Tryz.prog (fut (Below u0.heap.size) u0 x) = .ok (.agg p.arr) (fut (Below u0.heap.size) u0 x) := cells_futs (p := p) (off := 0) fun x j _ => box_futs (F := Below u0.heap.size) (Below.refl u0.heap.size) (fun _ h => h.block _ (Nat.lt_of_lt_of_le HGL.out HB5.out.size)) ((HB5.out.block _ HGL.out).trans HG.out) x j
                        refine wpGrow_cons ?_
                        repeat (first | (refine wpQuiet_load rfl 48 (.tmp 7) rfl ⟨g, 0, none⟩ rfl (.agg p.arr) (fun w' h => by obtain ⟨x, rfl⟩ := h; exact hgl x) ?_; simp only [Act.put, List.setIfInBounds_toArray, List.set_cons_succ, List.set_cons_zero]) | go_big_quiet_step (fail))
                        refine wpQuiet_nil ?_
                        clear hs1 hs2 hgl
                        go_wp2_with (at_builtin; go_must (refine wpList_app u0 rfl (.const (.slice none 0 0)) (.tmp 85) 27 27 48 rfl u0.heap.size Tryz.underlying27 stm_info rfl _ 0 [] (World.ownsRow_nil _ _ _ _) rfl _ K (plsC l1) (Row.src HLT.out.row Tryz.underlying27 (plsC_one _)) rfl (by unfold maxLen; omega) (by omega) (Nat.le_refl _) ?_); intro v1 z1 ho hb; rw [Nat.zero_add, List.nil_append, ← hk1] at ho; have HO1 : Hid (LOwn z1 u0.heap.size v1 l1) := Lib.hid ⟨ho, fun r hr => ⟨(HLT.out.ok r hr).later hb, (HLT.out.ok r hr).clear (own_ge ho)⟩⟩; have HU := Lib.hid hb; clear ho hb)
                        refine pieceEnd_normal ⟨HU.out, ?_⟩
                        refine wpGrow_cons ?_
                        refine wpQuiet_nil ?_
                        go_wp2_with fail
                        refine (HCP.out z1 (HB5.out.trans (HU.out.mono HB5.out.size))).mono ?_
                        rintro e z2 ⟨r, rfl, hrs, hro, hna, hnb, hb⟩
                        have HHR : Hid (HiL w.heap.size [r]) := Lib.hid (HiL.one (Nat.le_trans HB0.out.size (Nat.le_trans HB5.out.size HU.out.size)) hna hnb)
                        have HRS := Lib.hid hrs; have HRO := Lib.hid hro
                        have HCL := Lib.hid (clear_new (q := r) hna hnb (own_lt HO1.out.own))
                        have HF : Hid (Below u0.heap.size z1 z2) := Lib.hid (hb.mono HU.out.size)
                        have HO2 := Lib.hid (HO1.out.later hb); replace HU := Lib.hid (HU.out.trans HF.out)
                        clear hrs hro hna hnb hb HO1
                        go_wp2_with fail
                        refine pieceEnd_normal ⟨HF.out, ?_⟩
                        clear HF
                        refine wpGrow_cons ?_
                        refine wpQuiet_nil ?_
                        have hvs : r.arr.size = 13 := rfl
                        go_wp2_with fail
                        (first | rw [fold13] | (rw [← hvs, fold13]))
                        refine pieceEnd_normal ⟨(one_new z2 _).mono HU.out.size, ?_⟩
                        have HNW := Lib.hid (one_new z2 (.cells r.arr 48))
                        have HR3 : Hid (Row (z2.alloc (.cells r.arr 48)) (some ⟨z2.heap.size, 0, none⟩) 1 1 13 (plsC [r])) := Lib.hid (Row.of_block (heap_alloc_new _ _) rfl)
                        replace HRO := Lib.hid (HRO.out.later HNW.out)
                        have HO3 := Lib.hid (HO2.out.later HNW.out)
                        replace HU := Lib.hid (HU.out.trans (HNW.out.mono HU.out.size))
                        clear HO2 HNW
                        generalize z2.alloc (.cells r.arr 48) = z3 at *
                        refine wpGrow_cons ?_
                        refine wpQuiet_nil ?_
                        go_wp2_with (at_builtin; go_must (refine wpList_app2 z3 rfl (.tmp 86) (.tmp 89) 27 27 48 rfl u0.heap.size Tryz.underlying27 stm_info rfl _ l1.length (plsC l1) HO3.out.own rfl (.slice (some ⟨z2.heap.size, 0, none⟩) 1 1) 1 (plsC [r]) (Row.src HR3.out Tryz.underlying27 (plsC_one _)) rfl (by unfold maxLen; omega) (by omega) HU.out.size ?_); intro v4 z4 ho hb hkp hv; have HO4 := Lib.hid (HO3.out.app (m := [r]) (fun x hx => by rw [List.mem_singleton.1 hx]; exact ⟨HRO.out, HCL.out⟩) ho hkp hv); have HF : Hid (Below u0.heap.size z3 z4) := Lib.hid hb; replace HU := Lib.hid (HU.out.trans hb); clear ho hb hkp hv)
                        refine pieceEnd_normal ⟨HF.out, ?_⟩
                        clear HF HR3 HO3
                        refine wpGrow_cons ?_
                        refine wpQuiet_nil ?_
                        have HD4 := Lib.hid (HLD.out.later HU.out)
                        have HC4 : Hid (∀ x ∈ l2, PlOk z4 x ∧ Clear v4 x) := Lib.hid fun x hx => ⟨HD4.out.ok x hx, (HLD.out.ok x hx).clear (own_ge HO4.out.own)⟩
                        have hk4 : (l1 ++ [r]).length = K + 1 := by rw [List.length_append, hk1]; rfl
                        go_wp2_with (at_builtin; go_must (refine wpList_app2 z4 rfl (.tmp 90) (.tmp 93) 27 27 48 rfl u0.heap.size Tryz.underlying27 stm_info rfl _ (l1 ++ [r]).length _ HO4.out.own rfl _ (l'.length - K) (plsC l2) (Row.src HD4.out.row Tryz.underlying27 (plsC_one _)) rfl (by unfold maxLen; omega) (by omega) HU.out.size ?_); intro v5 z5 ho hb hkp hv; rw [← hk2] at ho; have HO5 := Lib.hid (HO4.out.app (m := l2) HC4.out ho hkp hv); have HF : Hid (Below u0.heap.size z4 z5) := Lib.hid hb; replace HU := Lib.hid (HU.out.trans hb); clear ho hb hkp hv)
                        refine pieceEnd_normal ⟨HF.out, ?_⟩
                        clear HF HO4 HD4 HC4
                        refine wpGrow_nil ?_
                        repeat (go_big_quiet_step (fail))
                        refine wpQuiet_nil ?_
                        go_wp2_with fail
                        obtain ⟨A5, c5, hv5, hr5⟩ := HO5.out.row
                        subst hv5
                        exact ⟨⟨j + 1, A5, c5, l1 ++ [r] ++ l2, hlt, rfl, by go_num, Lib.hid ((HH1.out.app HHR.out).app HH2.out), Lib.hid ⟨hr5, by rw [HT.out, HPE.out, List.map_append, List.map_append, List.map_cons, List.map_nil, HRS.out, List.append_assoc]; rfl, HB0.out.trans ((HB5.out.trans (HU.out.mono HB5.out.size)).mono HB0.out.size)⟩⟩, by simp [intOf]; omega⟩
                · have hlt9 : ¬ (K : Int) < (l'.length : Int) := by omega
                  have HPE : Hid (ownStep au (l'.map (·.s)) p.s = (l'.take K).map (·.s) ++ p.s :: (l'.drop K).map (·.s)) := Lib.hid (by rw [HPU.out, if_neg fun h => hql h.1])
                  clear HKP HPU
                  go_wp2_with fail
                  refine wp_region_grow (by kernel_rfl) Later Later.refl (fun _ _ _ => Later.trans) [0, 1, 2, 3, 4, 5, 6, 7, 8, 9, 10, 11, 12, 13, 14, 15, 16, 17, 18, 19, 20, 21, 22, 23, 24, 25, 26, 27, 28, 29, 30, 31, 32, 33, 34, 35] [] (by kernel_rfl) (by kernel_rfl) (by kernel_rfl) ?_
                  simp only [List.map_cons, List.map_nil, pick, List.getD_cons_zero, List.getD_cons_succ]
                  have HB3 : Hid (Below y0.heap.size y0 wr.drew) := Lib.hid HQ.out.drew
                  clear HQ
                  generalize wr.drew = z0 at *
                  refine wpGrow_nil ?_
                  repeat (go_big_quiet_step (fail))
                  refine wpQuiet_nil ?_
                  go_wp2_with fail
                  refine wp_region_grow (by kernel_rfl) Later Later.refl (fun _ _ _ => Later.trans) [11] [([0, 1, 2, 3, 4, 5, 6, 7, 8, 9], 10)] (by kernel_rfl) (by kernel_rfl) (by kernel_rfl) ?_
                  simp only [List.map_cons, List.map_nil, pick, List.getD_cons_zero, List.getD_cons_succ]
                  have HB4 : Hid (Below y0.heap.size y0 z0.drew) := Lib.hid HB3.out.drew
                  clear HB3
                  generalize z0.drew = z4 at *
                  refine wpGrow_cons ?_
                  repeat (go_big_quiet_step (fail))
                  refine wpQuiet_nil ?_
                  go_wp2_with fail
                  have HF : Hid (Later z4 z4) := Lib.hid (Later.refl _)
                  go_wp2_with fail
                  refine pieceEnd_normal ⟨HF.out, ?_⟩
                  clear HF
                  refine wpGrow_nil ?_
                  repeat (go_big_quiet_step (fail))
                  refine wpQuiet_nil ?_
                  go_wp2_with fail
                  have hs1 := fun w' => run_slice_to (P := Tryz.prog) (t := 27) Tryz.underlying27 stm_size6 (w0 := y0) HL1.out.row (i := (K : Int)) rfl hK .i64 w'
                  have hs2 := fun w' => run_slice_from (P := Tryz.prog) (t := 27) Tryz.underlying27 stm_size6 (A := A1) (n := l'.length) (c := c1) (k := K) (i := (K : Int)) rfl hK .i64 w'
                  refine wp_region_grow (by kernel_rfl) (Below z4.drew.heap.size) (Below.refl z4.drew.heap.size) (fun _ _ _ => Below.trans) [12] [([0, 1, 2, 4, 8, 9, 10], 3), ([], 5), ([], 6), ([], 7), ([], 11)] (by kernel_rfl) (by kernel_rfl) (by kernel_rfl) ?_
                  simp only [List.map_cons, List.map_nil, pick, List.getD_cons_zero, List.getD_cons_succ]
                  have HB5 : Hid (Below y0.heap.size y0 z4.drew) := Lib.hid HB4.out.drew
                  clear HB4
                  generalize z4.drew = u0 at *
                  have HLT := Lib.hid ((HL1.out.later HB5.out).take K hK); have HLD := Lib.hid ((HL1.out.later HB5.out).drop K hK)
                  have hk1 : (l'.take K).length = K := by rw [List.length_take]; omega
                  have hk2 : (l'.drop K).length = l'.length - K := List.length_drop
                  generalize dropA A1 c1 K 13 = AD at hs2 HLD
                  have HH1 := Lib.hid (HHI.out.take K); have HH2 := Lib.hid (HHI.out.drop K)
                  generalize l'.take K = l1 at *
                  generalize l'.drop K = l2 at *
                  have hgl : ∀ x, (loadVar 48 ⟨g, 0, none⟩).run Tryz.prog (fut (Below u0.heap.size) u0 x) = .ok (.agg p.arr) (fut (Below u0.heap.size) u0 x) := cells_futs (p := p) (off := 0) fun x j _ => box_futs (F := Below u0.heap.size) (Below.refl u0.heap.size) (fun _ h => h.block _ (Nat.lt_of_lt_of_le HGL.out HB5.out.size)) ((HB5.out.block _ HGL.out).trans HG.out) x j
                  refine wpGrow_cons ?_
                  repeat (first | (refine wpQuiet_load rfl 48 (.tmp 7) rfl ⟨g, 0, none⟩ rfl (.agg p.arr) (fun w' h => by obtain ⟨x, rfl⟩ := h; exact hgl x) ?_; simp only [Act.put, List.setIfInBounds_toArray, List.set_cons_succ, List.set_cons_zero]) | go_big_quiet_step (fail))
                  refine wpQuiet_nil ?_
                  clear hs1 hs2 hgl
                  go_wp2_with (at_builtin; go_must (refine wpList_app u0 rfl (.const (.slice none 0 0)) (.tmp 85) 27 27 48 rfl u0.heap.size Tryz.underlying27 stm_info rfl _ 0 [] (World.ownsRow_nil _ _ _ _) rfl _ K (plsC l1) (Row.src HLT.out.row Tryz.underlying27 (plsC_one _)) rfl (by unfold maxLen; omega) (by omega) (Nat.le_refl _) ?_); intro v1 z1 ho hb; rw [Nat.zero_add, List.nil_append, ← hk1] at ho; have HO1 : Hid (LOwn z1 u0.heap.size v1 l1) := Lib.hid ⟨ho, fun r hr => ⟨(HLT.out.ok r hr).later hb, (HLT.out.ok r hr).clear (own_ge ho)⟩⟩; have HU := Lib.hid hb; clear ho hb)
                  refine pieceEnd_normal ⟨HU.out, ?_⟩
                  refine wpGrow_cons ?_
                  refine wpQuiet_nil ?_
                  go_wp2_with fail
                  refine (HCP.out z1 (HB5.out.trans (HU.out.mono HB5.out.size))).mono ?_
                  rintro e z2 ⟨r, rfl, hrs, hro, hna, hnb, hb⟩
                  have HHR : Hid (HiL w.heap.size [r]) := Lib.hid (HiL.one (Nat.le_trans HB0.out.size (Nat.le_trans HB5.out.size HU.out.size)) hna hnb)
                  have HRS := Lib.hid hrs; have HRO := Lib.hid hro
                  have HCL := Lib.hid (clear_new (q := r) hna hnb (own_lt HO1.out.own))
                  have HF : Hid (Below u0.heap.size z1 z2) := Lib.hid (hb.mono HU.out.size)
                  have HO2 := Lib.hid (HO1.out.later hb); replace HU := Lib.hid (HU.out.trans HF.out)
                  clear hrs hro hna hnb hb HO1
                  go_wp2_with fail
                  refine pieceEnd_normal ⟨HF.out, ?_⟩
                  clear HF
                  refine wpGrow_cons ?_
                  refine wpQuiet_nil ?_
                  have hvs : r.arr.size = 13 := rfl
                  go_wp2_with fail
                  (first | rw [fold13] | (rw [← hvs, fold13]))
                  refine pieceEnd_normal ⟨(one_new z2 _).mono HU.out.size, ?_⟩
                  have HNW := Lib.hid (one_new z2 (.cells r.arr 48))
                  have HR3 : Hid (Row (z2.alloc (.cells r.arr 48)) (some ⟨z2.heap.size, 0, none⟩) 1 1 13 (plsC [r])) := Lib.hid (Row.of_block (heap_alloc_new _ _) rfl)
                  replace HRO := Lib.hid (HRO.out.later HNW.out)
                  have HO3 := Lib.hid (HO2.out.later HNW.out)
                  replace HU := Lib.hid (HU.out.trans (HNW.out.mono HU.out.size))
                  clear HO2 HNW
                  generalize z2.alloc (.cells r.arr 48) = z3 at *
                  refine wpGrow_cons ?_
                  refine wpQuiet_nil ?_
                  go_wp2_with (at_builtin; go_must (refine wpList_app2 z3 rfl (.tmp 86) (.tmp 89) 27 27 48 rfl u0.heap.size Tryz.underlying27 stm_info rfl _ l1.length (plsC l1) HO3.out.own rfl (.slice (some ⟨z2.heap.size, 0, none⟩) 1 1) 1 (plsC [r]) (Row.src HR3.out Tryz.underlying27 (plsC_one _)) rfl (by unfold maxLen; omega) (by omega) HU.out.size ?_); intro v4 z4 ho hb hkp hv; have HO4 := Lib.hid (HO3.out.app (m := [r]) (fun x hx => by rw [List.mem_singleton.1 hx]; exact ⟨HRO.out, HCL.out⟩) ho hkp hv); have HF : Hid (Below u0.heap.size z3 z4) := Lib.hid hb; replace HU := Lib.hid (HU.out.trans hb); clear ho hb hkp hv)
                  refine pieceEnd_normal ⟨HF.out, ?_⟩
                  clear HF HR3 HO3
                  refine wpGrow_cons ?_
                  refine wpQuiet_nil ?_
                  have HD4 := Lib.hid (HLD.out.later HU.out)
                  have HC4 : Hid (∀ x ∈ l2, PlOk z4 x ∧ Clear v4 x) := Lib.hid fun x hx => ⟨HD4.out.ok x hx, (HLD.out.ok x hx).clear (own_ge HO4.out.own)⟩
                  have hk4 : (l1 ++ [r]).length = K + 1 := by rw [List.length_append, hk1]; rfl
                  go_wp2_with (at_builtin; go_must (refine wpList_app2 z4 rfl (.tmp 90) (.tmp 93) 27 27 48 rfl u0.heap.size Tryz.underlying27 stm_info rfl _ (l1 ++ [r]).length _ HO4.out.own rfl _ (l'.length - K) (plsC l2) (Row.src HD4.out.row Tryz.underlying27 (plsC_one _)) rfl (by unfold maxLen; omega) (by omega) HU.out.size ?_); intro v5 z5 ho hb hkp hv; rw [← hk2] at ho; have HO5 := Lib.hid (HO4.out.app (m := l2) HC4.out ho hkp hv); have HF : Hid (Below u0.heap.size z4 z5) := Lib.hid hb; replace HU := Lib.hid (HU.out.trans hb); clear ho hb hkp hv)
                  refine pieceEnd_normal ⟨HF.out, ?_⟩
                  clear HF HO4 HD4 HC4
                  refine wpGrow_nil ?_
                  repeat (go_big_quiet_step (fail))
                  refine wpQuiet_nil ?_
                  go_wp2_with fail
                  obtain ⟨A5, c5, hv5, hr5⟩ := HO5.out.row
                  subst hv5
                  exact ⟨⟨j + 1, A5, c5, l1 ++ [r] ++ l2, hlt, rfl, by go_num, Lib.hid ((HH1.out.app HHR.out).app HH2.out), Lib.hid ⟨hr5, by rw [HT.out, HPE.out, List.map_append, List.map_append, List.map_cons, List.map_nil, HRS.out, List.append_assoc]; rfl, HB0.out.trans ((HB5.out.trans (HU.out.mono HB5.out.size)).mono HB0.out.size)⟩⟩, by simp [intOf]; omega⟩
          · have HE : Hid (ownStep au (l'.map (·.s)) p.s = l'.map (·.s)) := Lib.hid (if_neg fun h => hse h.2.2)
            rw [show sealedB p.s = false by simpa using hse]
            clear hse
            go_wp2_with fail
            exact ⟨⟨j + 1, A1, c1, l', hlt, rfl, by go_num, HHI, Lib.hid ⟨HL1.out.later HB2.out, by rw [HT.out, HE.out], HB0.out.trans (HB2.out.mono HB0.out.size)⟩⟩, by simp [intOf]; omega⟩
        · have HE : Hid (ownStep au (l'.map (·.s)) p.s = l'.map (·.s)) := Lib.hid (if_neg fun h => hk h.2.1)
          have hk2 : (checkV p.s != 0) = true := by simpa using hk
          generalize checkV p.s = ck at *
          clear hk
          go_wp2_with fail
          exact ⟨⟨j + 1, A1, c1, l', hlt, rfl, by go_num, HHI, Lib.hid ⟨HL1.out.later HB1.out, by rw [HT.out, HE.out], HB0.out.trans (HB1.out.mono HB0.out.size)⟩⟩, by simp [intOf]; omega⟩
      · have ha2 : (p.s.author != au) = true := by simpa using ha
        have HE : Hid (ownStep au (l'.map (·.s)) p.s = l'.map (·.s)) := Lib.hid (if_neg fun h => ha h.1)
        clear ha
        go_wp2_with fail
        exact ⟨⟨j + 1, A1, c1, l', hlt, rfl, by go_num, HHI, Lib.hid ⟨HL1.out, by rw [HT.out, HE.out], HB0.out⟩⟩, by simp [intOf]; omega⟩
    · have hlt2 : ¬ (j : Int) < (n : Int) := by omega
      have HE : Hid (j = n) := by unfold Hid; omega
      go_wp2_with fail
      go_ret
      exact ⟨A1, c1, l', rfl, by rw [HQ.out.2.1, HE.out, List.take_of_length_le (by rw [HLN.out]; exact Nat.le_refl _)], HQ.out.1, HHI.out, HQ.out.2.2⟩
end Go.Proofs.YtnmpbjgccbnomaaGreat
