import Derived.Test.YtnmpbjgccbnomaaGreatPackAB
import Derived.StillTailTactics
import Derived.Deep.QuietTactic
import Derived.BigQuiet
import Derived.BigRegion
/- The walk of the reference's block. -/
namespace Go.Proofs.YtnmpbjgccbnomaaGreat
open Go.RowKit
/-- Words in a block of their own, from its head on. -/
def WB (w : World) (g : Nat) (l : List UInt32) : Prop := ∀ i, i < l.length → w.cell? ⟨g, i, none⟩ = some (.int .u32 (w32 (Sha.at_ l i)))
theorem WB.below {B g : Nat} {w w' : World} {l : List UInt32} (h : WB w g l) (hb : Below B w w') (hg : g < B) : WB w' g l := fun i hi => (hb.cell (p := ⟨g, i, none⟩) hg).trans (h i hi)
theorem WB.lt {g : Nat} {w : World} {l : List UInt32} (h : WB w g l) (hl : 0 < l.length) : g < w.heap.size := block_lt_of_cell (h 0 hl)
theorem WB.of_heap {g n : Nat} {w : World} {l : List UInt32} {t : TypeId} (h : w.heap[g]? = some (.cells (cellsW l n) t (0, 0))) : WB w g l := fun i hi => by
  rw [cell_of_row _ _ _ _ _ _ h, cellsW_get _ _ _ hi]
/-- While the block's words are laid. -/
def BInv (w wr : World) (l : List UInt32) : Prop := wr.heap[w.heap.size]? = some (.cells (cellsW l 64) 132 (0, 0)) ∧ Below w.heap.size w wr
theorem BInv.set {w wr : World} {l : List UInt32} (h : BInv w wr l) {k : Nat} (hk : k = l.length) (x : UInt32) (hl : k < 64) :
    BInv w (wr.setCell ⟨w.heap.size, k, none⟩ (.int .u32 (w32 x))) (l ++ [x]) := by
  subst hk
  obtain ⟨h1, h3⟩ := h
  exact ⟨by rw [heap_setCell_same _ _ _ _ _ _ h1, cellsW_push _ _ _ hl], h3.setCell (by simp) _⟩
theorem BInv.drewN {w wr : World} {l : List UInt32} (h : BInv w wr l) (n : Nat) : BInv w (wr.drewN n) l := ⟨h.1, ⟨h.2.os, h.2.tape, h.2.output, h.2.size, h.2.block⟩⟩
theorem BInv.drew {w wr : World} {l : List UInt32} (h : BInv w wr l) : BInv w wr.drew l := ⟨h.1, h.2.drew⟩
theorem BInv.start (w : World) : BInv w (w.alloc (.cells (cellsW [] 64) 132)) [] := ⟨heap_alloc_new _ _, (Below.refl _ _).alloc (Nat.le_refl _) _⟩
/-- A callee that leaves the world as it is, inside a region that draws. -/
theorem quiet_stay {P : Program} {f : FuncId} {args : Array Value} {W : World} {n : Nat} {v : Value}
    (h : Calls P f args (W.drewN n) fun e w' => e = .returned v ∧ W.drewN n = w') : Calls P f args (W.drewN n) fun e w'' => e = .returned v ∧ ∃ m, w'' = W.drewN m :=
  h.mono fun _ _ x => ⟨x.1, n, x.2.symm⟩
theorem codeWp_any {P : Program} {C : Code} {Q : Exit → Act → World → Prop} {a : Act} {W0 : World} (R : World → Prop) (h0 : R W0) (h : ∀ W, R W → C.wp P Q a W) : C.wp P Q a W0 := h W0 h0
/-- A row of words that may be written. -/
def WR (w : World) (g : Nat) (l : List UInt32) : Prop := ∃ cur, w.heap[g]? = some (.cells cur 132 (0, 0)) ∧ ∀ i, i < l.length → cur[i]? = some (.int .u32 (w32 (Sha.at_ l i)))
theorem WR.wb {w : World} {g : Nat} {l : List UInt32} (h : WR w g l) : WB w g l := fun i hi => by
  obtain ⟨cur, h1, h2⟩ := h
  rw [cell_of_row _ _ _ _ _ _ h1]; exact h2 i hi
theorem WR.frozen {w : World} {g : Nat} {l : List UInt32} (h : WR w g l) (i : Nat) : w.frozen? ⟨g, i, none⟩ = false := by
  obtain ⟨cur, h1, _⟩ := h; exact frozen_of_row _ _ _ _ _ h1
def wordsV (l : List UInt32) : List Value := l.map (fun x => Value.int .u32 (w32 x))
theorem wordsV_get (l : List UInt32) (i : Nat) (h : i < l.length) : (wordsV l)[i]? = some (.int .u32 (w32 (Sha.at_ l i))) := by simp [wordsV, Sha.at_, h]
theorem wordsV_one (l : List UInt32) : ∀ u ∈ wordsV l, u.oneCell' = true := by
  intro u hu; simp only [wordsV, List.mem_map] at hu; obtain ⟨x, _, rfl⟩ := hu; rfl
/-- append of words onto nil: a new row that holds them. -/
theorem wpList_copyWords {P : Program} {ops : Array Oper} {rest : List Oper} {o : Oper} {a : Act} {Q : Exit → Act → World → Prop} (wr : World) (hgd : o.guard = none) (s x : Operand) (t : TypeId)
    (ho : o.op = .call { callee := .builtin .append, args := #[s, x], argTypes := #[t, t] })
    (ht : P.underlying t = some (.slice 132)) (hi : (P.info? 132).map (fun i => (i.zero, i.size, i.bytes)) = some (some (.int .u32 0), 1, 4))
    (B : Nat) (hB : B ≤ wr.heap.size) (us : List UInt32) (hu : 0 < us.length) (hu2 : us.length ≤ 4000000) (g0 c m : Nat) (hm : us.length = m) (hc : WB wr g0 us) (hs : a.eval s = .slice none 0 0) (hx : a.eval x = .slice (some ⟨g0, 0, none⟩) m c)
    (h : ∀ g cap w', B ≤ g → WR w' g us → Below B wr w' → wpList P ops Q rest (a.put o.dst (.slice (some ⟨g, 0, none⟩) m cap)) w') : wpList P ops Q (o :: rest) a wr := by
  obtain ⟨i0, hi0, hz0, hz1, hz2⟩ := info_parts hi
  refine wpList_append_own _ hgd s x t ho B 132 i0 (.int .u32 0) 1 4 ht hi0 hz0 hz1 hz2 rfl (by decide) (.slice none 0 0) 0 [] hs (World.ownsRow_nil _ _ _ _) ⟨g0, 0, none⟩ m c (wordsV us) hx (by simp [wordsV, hm]) ?_ (wordsV_one us) (by unfold maxLen; omega) (by omega) hB ?_
  · intro j u hj
    have hjl : j < us.length := by
      rcases Nat.lt_or_ge j us.length with h1 | h1
      · exact h1
      · rw [List.getElem?_eq_none (by simpa [wordsV] using h1)] at hj; cases hj
    rw [wordsV_get _ _ hjl] at hj
    rw [show ((⟨g0, 0, none⟩ : Addr).add j) = ⟨g0, j, none⟩ from by rw [Addr.add_lit, Nat.zero_add], hc j hjl]; exact hj
  · intro v' w' h1 h2 _
    rw [Nat.zero_add, List.nil_append] at h1
    have hb : Below B wr w' := (Below.refl B wr).grown h2 hB (fun k hk => by simp [Value.ownBlock] at hk)
    rcases h1.2 with ⟨_, h0⟩ | ⟨g, cap, cur, rfl, hg, hgg, _, _, hsz, htk⟩
    · omega
    · refine h g cap w' hg ⟨cur, hgg, fun i hi => ?_⟩ hb
      have h3 := wordsV_get us i hi
      rw [← htk, Nat.mul_one, List.getElem?_take, if_pos (by omega)] at h3
      simpa using h3
theorem WR.set {w : World} {g : Nat} {l : List UInt32} (h : WR w g l) {k : Nat} (hk : k < l.length) (x : UInt32) : WR (w.setCell ⟨g, k, none⟩ (.int .u32 (w32 x))) g (l.set k x) := by
  obtain ⟨cur, h1, h2⟩ := h
  have hkc : k < cur.size := by
    rcases Nat.lt_or_ge k cur.size with h3 | h3
    · exact h3
    · have := h2 k hk; rw [Array.getElem?_eq_none h3] at this; cases this
  refine ⟨cur.setIfInBounds k (.int .u32 (w32 x)), heap_setCell_same _ _ _ _ _ _ h1, fun i hi => ?_⟩
  rw [List.length_set] at hi
  by_cases e : k = i
  · subst e
    rw [Array.getElem?_setIfInBounds_self_of_lt hkc]
    simp [Sha.at_, hi]
  · rw [Array.getElem?_setIfInBounds_ne e, h2 i hi]
    simp [Sha.at_, e]
/-- The first k words of t with those of s added. -/
def addTo (t s : List UInt32) : Nat → List UInt32
  | 0 => t
  | k + 1 => (addTo t s k).set k (Sha.at_ (addTo t s k) k + Sha.at_ s k)
theorem addTo_len (t s : List UInt32) (k : Nat) : (addTo t s k).length = t.length := by
  induction k with
  | zero => rfl
  | succ k ih => simp [addTo, ih]
theorem addTo_eight (t s : Sha.St) : addTo (Sha.toL t) (Sha.toL s) 8 = Sha.toL (Sha.addS s t) := by
  simp [addTo, Sha.toL, Sha.at_, Sha.addS, UInt32.add_comm]
/-- While the rounds are run: the row at g holds the state t, and below W4's end nothing has changed. -/
def R3 (W4 wr : World) (base g : Nat) (t : Sha.St) : Prop := base ≤ g ∧ WR wr g (Sha.toL t) ∧ Below W4.heap.size W4 wr
theorem R3.drewN {W4 wr : World} {base g : Nat} {t : Sha.St} (h : R3 W4 wr base g t) (n : Nat) : R3 W4 (wr.drewN n) base g t :=
  ⟨h.1, h.2.1, ⟨h.2.2.os, h.2.2.tape, h.2.2.output, h.2.2.size, h.2.2.block⟩⟩
theorem R3.drew {W4 wr : World} {base g : Nat} {t : Sha.St} (h : R3 W4 wr base g t) : R3 W4 wr.drew base g t := ⟨h.1, h.2.1, h.2.2.drew⟩
theorem R3.c0 {W4 wr : World} {base g : Nat} {t : Sha.St} (h : R3 W4 wr base g t) : wr.cell? ⟨g, 0, none⟩ = some (.int .u32 (w32 t.a)) := h.2.1.wb 0 (by rw [Sha.toL_len]; omega)
theorem R3.c1 {W4 wr : World} {base g : Nat} {t : Sha.St} (h : R3 W4 wr base g t) : wr.cell? ⟨g, 1, none⟩ = some (.int .u32 (w32 t.b)) := h.2.1.wb 1 (by rw [Sha.toL_len]; omega)
theorem R3.c2 {W4 wr : World} {base g : Nat} {t : Sha.St} (h : R3 W4 wr base g t) : wr.cell? ⟨g, 2, none⟩ = some (.int .u32 (w32 t.c)) := h.2.1.wb 2 (by rw [Sha.toL_len]; omega)
theorem R3.c3 {W4 wr : World} {base g : Nat} {t : Sha.St} (h : R3 W4 wr base g t) : wr.cell? ⟨g, 3, none⟩ = some (.int .u32 (w32 t.d)) := h.2.1.wb 3 (by rw [Sha.toL_len]; omega)
theorem R3.c4 {W4 wr : World} {base g : Nat} {t : Sha.St} (h : R3 W4 wr base g t) : wr.cell? ⟨g, 4, none⟩ = some (.int .u32 (w32 t.e)) := h.2.1.wb 4 (by rw [Sha.toL_len]; omega)
theorem R3.c5 {W4 wr : World} {base g : Nat} {t : Sha.St} (h : R3 W4 wr base g t) : wr.cell? ⟨g, 5, none⟩ = some (.int .u32 (w32 t.f)) := h.2.1.wb 5 (by rw [Sha.toL_len]; omega)
theorem R3.c6 {W4 wr : World} {base g : Nat} {t : Sha.St} (h : R3 W4 wr base g t) : wr.cell? ⟨g, 6, none⟩ = some (.int .u32 (w32 t.g)) := h.2.1.wb 6 (by rw [Sha.toL_len]; omega)
theorem R3.c7 {W4 wr : World} {base g : Nat} {t : Sha.St} (h : R3 W4 wr base g t) : wr.cell? ⟨g, 7, none⟩ = some (.int .u32 (w32 t.h)) := h.2.1.wb 7 (by rw [Sha.toL_len]; omega)
theorem R3.new {W4 wr : World} {base g : Nat} {t : Sha.St} (h : R3 W4 wr base g t) (h4 : base ≤ W4.heap.size) (t' : Sha.St) (cs : Array Value) (hcs : cs = (wordsV (Sha.toL t')).toArray) :
    R3 W4 (wr.alloc (.cells cs 132)) base wr.heap.size t' := by
  subst hcs
  have hs := h.2.2.size
  exact ⟨by omega, ⟨_, heap_alloc_new _ _, fun i hi => by simpa using wordsV_get _ i hi⟩, h.2.2.alloc hs _⟩
theorem u32_info : (Tryz.prog.info? 132).map (fun i => (i.zero, i.size, i.bytes)) = some (some (.int .u32 0), 1, 4) := by kernel_rfl
set_option maxRecDepth 100000 in
set_option maxHeartbeats 2000000 in
theorem block_any (b off n c hb hcap kb : Nat) (s : Sha.St) (us : List UInt8) (w : World) (hn : 64 ≤ n) (hn2 : n ≤ 4000000) (hbl : b < w.heap.size)
    (hc : ∀ i, i < 64 → w.cell? ⟨b, off + i, none⟩ = some (.int .u8 (w8 (Sha.blk us i)))) (hh : WB w hb (Sha.toL s)) (hk : WB w kb Sha.K) :
    Calls Tryz.prog 111 #[.slice (some ⟨hb, 0, none⟩) 8 hcap, .slice (some ⟨b, off, none⟩) n c, .slice (some ⟨kb, 0, none⟩) 64 64] w fun e w' =>
      ∃ g cap, e = .returned (.slice (some ⟨g, 0, none⟩) 8 cap) ∧ WB w' g (Sha.toL (Sha.mixL s us)) ∧ Below w.heap.size w w' := by
  have hmk : ∀ w, (Instr.makeSlice 137 (.int .i64 64) (.int .i64 64)).run Tryz.prog w = .ok (.slice (some ⟨w.heap.size, 0, none⟩) 64 64) (w.alloc (.cells (cellsW [] 64) 132)) := fun _ => by kernel_rfl
  have HC := Lib.hid hc; have HH := Lib.hid hh; have HK := Lib.hid hk; clear hc hh hk
  go_enter Tryz.func111, Tryz.ntmps111
  go_wp2
  clear hmk
  go_loopw [8] (fun i wr => ∃ k : Nat, k ≤ 16 ∧ i = .int .i64 k ∧ Hid (BInv w wr (Sha.firsts (Sha.blk us) k))) (fun i _ => 16 - (intOf i).toNat)
  case atStart => exact ⟨0, by omega, rfl, BInv.start w⟩
  case round =>
    obtain ⟨k, hk, rfl, HI⟩ := hrel
    by_cases hlt : k < 16
    · have c0 : wr.cell? ⟨b, off + 4 * k, none⟩ = some (.int .u8 (w8 (Sha.blk us (4 * k)))) := (HI.out.2.cell (p := ⟨b, off + 4 * k, none⟩) hbl).trans (HC.out _ (by omega))
      have c1 : wr.cell? ⟨b, off + (4 * k + 1), none⟩ = some (.int .u8 (w8 (Sha.blk us (4 * k + 1)))) := (HI.out.2.cell (p := ⟨b, off + (4 * k + 1), none⟩) hbl).trans (HC.out _ (by omega))
      have c2 : wr.cell? ⟨b, off + (4 * k + 2), none⟩ = some (.int .u8 (w8 (Sha.blk us (4 * k + 2)))) := (HI.out.2.cell (p := ⟨b, off + (4 * k + 2), none⟩) hbl).trans (HC.out _ (by omega))
      have c3 : wr.cell? ⟨b, off + (4 * k + 3), none⟩ = some (.int .u8 (w8 (Sha.blk us (4 * k + 3)))) := (HI.out.2.cell (p := ⟨b, off + (4 * k + 3), none⟩) hbl).trans (HC.out _ (by omega))
      have hf : wr.frozen? ⟨w.heap.size, k, none⟩ = false := frozen_of_row _ _ _ _ _ HI.out.1
      have hs : wr.cell? ⟨w.heap.size, k, none⟩ = some (.int .u32 0) := by rw [cell_of_row _ _ _ _ _ _ HI.out.1, cellsW_rest _ _ _ (by rw [Sha.firsts_len]; omega) (by omega)]
      go_wp2
      have e0 : IntKind.i64.wrap (4 * (k : Int)) = 4 * (k : Int) := IntWalk.i64_in _ (by omega)
      have e1 : IntKind.i64.wrap (4 * (k : Int) + 1) = 4 * (k : Int) + 1 := IntWalk.i64_in _ (by omega)
      have e2 : IntKind.i64.wrap (4 * (k : Int) + 2) = 4 * (k : Int) + 2 := IntWalk.i64_in _ (by omega)
      have e3 : IntKind.i64.wrap (4 * (k : Int) + 3) = 4 * (k : Int) + 3 := IntWalk.i64_in _ (by omega)
      have t0 : (4 * (k : Int)).toNat = 4 * k := by omega
      have t1 : (4 * (k : Int) + 1).toNat = 4 * k + 1 := by omega
      have t2 : (4 * (k : Int) + 2).toNat = 4 * k + 2 := by omega
      have t3 : (4 * (k : Int) + 3).toNat = 4 * k + 3 := by omega
      have p0 : 0 ≤ 4 * (k : Int) ∧ 4 * (k : Int) < n := by omega
      have p1 : 0 ≤ 4 * (k : Int) + 1 ∧ 4 * (k : Int) + 1 < n := by omega
      have p2 : 0 ≤ 4 * (k : Int) + 2 ∧ 4 * (k : Int) + 2 < n := by omega
      have p3 : 0 ≤ 4 * (k : Int) + 3 ∧ 4 * (k : Int) + 3 < n := by omega
      have p4 : (k : Int) < 64 := by omega
      go_still_tail 36, (by kernel_rfl)
      change wpList _ _ _ _ _ wr.drew
      clear c0 c1 c2 c3 e0 e1 e2 e3 t0 t1 t2 t3 p0 p1 p2 p3 p4
      go_wp2
      go_roundw
      case rel => exact ⟨k + 1, by omega, by go_num, Lib.hid (by rw [Sha.firsts_succ]; exact HI.out.drew.set (Sha.firsts_len _ k).symm _ (by omega))⟩
      case measure => simp [intOf]; omega
    · have HE : Hid (k = 16) := by unfold Hid; omega
      go_wp2
      refine codeWp_any (fun W => Hid (BInv w W (Sha.schedTo (Sha.blk us) 0))) (by have h := HI.out; rw [HE.out] at h; exact h) (fun w1 H1 => ?_)
      clear HI
      go_loopw [9] (fun i wr => ∃ j : Nat, 16 ≤ j ∧ j ≤ 64 ∧ i = .int .i64 j ∧ Hid (BInv w wr (Sha.schedTo (Sha.blk us) (j - 16)))) (fun i _ => 64 - (intOf i).toNat)
      case atStart => exact ⟨16, by omega, by omega, rfl, H1.out⟩
      case round =>
        obtain ⟨j, hj1, hj2, rfl, HI⟩ := hrel
        clear H1
        by_cases hlt : j < 64
        · have hlen := Sha.schedTo_len (Sha.blk us) (j - 16)
          obtain ⟨l, hl⟩ : ∃ l, l = Sha.schedTo (Sha.blk us) (j - 16) := ⟨_, rfl⟩
          rw [← hl] at HI hlen
          have HL := Lib.hid hl; clear hl
          have HN : Hid (l.length = j) := by unfold Hid; omega
          clear hlen
          have hcell : ∀ W, BInv w W l → ∀ i, i < j → W.cell? ⟨w.heap.size, i, none⟩ = some (.int .u32 (w32 (Sha.at_ l i))) := fun W h i hi => WB.of_heap h.1 i (by rw [HN.out]; exact hi)
          have HCELL := Lib.hid hcell; clear hcell
          have c15 := HCELL.out wr HI.out (j - 15) (by omega)
          have e2 : IntKind.i64.wrap ((j : Int) - 2) = (j : Int) - 2 := IntWalk.i64_in _ (by omega)
          have e7 : IntKind.i64.wrap ((j : Int) - 7) = (j : Int) - 7 := IntWalk.i64_in _ (by omega)
          have e15 : IntKind.i64.wrap ((j : Int) - 15) = (j : Int) - 15 := IntWalk.i64_in _ (by omega)
          have e16 : IntKind.i64.wrap ((j : Int) - 16) = (j : Int) - 16 := IntWalk.i64_in _ (by omega)
          have t2 : ((j : Int) - 2).toNat = j - 2 := by omega
          have t7 : ((j : Int) - 7).toNat = j - 7 := by omega
          have t15 : ((j : Int) - 15).toNat = j - 15 := by omega
          have t16 : ((j : Int) - 16).toNat = j - 16 := by omega
          have p2 : (2 : Int) ≤ (j : Int) := by omega
          have q2 : (j : Int) - 2 < 64 := by omega
          have p7 : (7 : Int) ≤ (j : Int) := by omega
          have q7 : (j : Int) - 7 < 64 := by omega
          have p15 : (15 : Int) ≤ (j : Int) := by omega
          have q15 : (j : Int) - 15 < 64 := by omega
          have p16 : (16 : Int) ≤ (j : Int) := by omega
          have q16 : (j : Int) - 16 < 64 := by omega
          have p4 : (j : Int) < 64 := by omega
          go_wp2
          go_quiet ((go_at_call 128; exact quiet_stay (turn_any _ _ (by decide) (by decide) _)))
          go_wp2
          refine codeWp_any (fun W => Hid (BInv w W l)) (Lib.hid (HI.out.drewN _)) (fun w2 H2 => ?_)
          clear c15 HI
          have c2 := HCELL.out w2 H2.out (j - 2) (by omega)
          go_quiet ((go_at_call 128; exact quiet_stay (turn_any _ _ (by decide) (by decide) _)))
          go_wp2
          refine codeWp_any (fun W => Hid (BInv w W l)) (Lib.hid (H2.out.drewN _)) (fun w3 H3 => ?_)
          clear c2 H2
          have c7 := HCELL.out w3 H3.out (j - 7) (by omega)
          have c16 := HCELL.out w3 H3.out (j - 16) (by omega)
          have hf : w3.frozen? ⟨w.heap.size, j, none⟩ = false := frozen_of_row _ _ _ _ _ H3.out.1
          have hs : w3.cell? ⟨w.heap.size, j, none⟩ = some (.int .u32 0) := by rw [cell_of_row _ _ _ _ _ _ H3.out.1, cellsW_rest _ _ _ (by rw [HN.out]; omega) (by omega)]
          go_still_tail 18, (by kernel_rfl)
          change wpList _ _ _ _ _ w3.drew
          clear c7 c16 e2 e7 e15 e16 t2 t7 t15 t16 p2 p7 p15 p16 q2 q7 q15 q16 p4
          go_wp2
          go_roundw
          case rel =>
            refine ⟨j + 1, by omega, by omega, by go_num, Lib.hid ?_⟩
            rw [show j + 1 - 16 = (j - 16) + 1 by omega, Sha.schedTo, ← HL.out, Sha.nextW, HN.out]
            exact H3.out.drew.set HN.out.symm _ (by omega)
          case measure => simp [intOf]; omega
        · have HJ : Hid (j = 64) := by unfold Hid; omega
          have HS : Hid (Sha.schedTo (Sha.blk us) (j - 16) = Sha.sched (Sha.blk us)) := by unfold Hid; rw [HJ.out]; rfl
          have hsl : (Sha.sched (Sha.blk us)).length = 64 := by rw [Sha.sched, Sha.schedTo_len]
          obtain ⟨ws, hws⟩ : ∃ ws, ws = Sha.sched (Sha.blk us) := ⟨_, rfl⟩
          rw [← hws] at HS hsl
          have HWS := Lib.hid hws; have HSL := Lib.hid hsl; clear hws hsl
          have hws' : w.heap.size < wr.heap.size := (Array.getElem?_eq_some_iff.1 HI.out.1).1
          have hbw := HI.out.2
          have hwb : WB wr w.heap.size ws := by rw [← HS.out]; exact WB.of_heap HI.out.1
          have HB0 := Lib.hid hbw; have HWB := Lib.hid hwb
          have hhl := HH.out.lt (by rw [Sha.toL_len]; omega)
          have hkl := HK.out.lt (by decide)
          clear hbw hwb HI
          go_wp2_with (at_builtin; refine wpList_copyWords wr rfl (.const (.slice none 0 0)) (.tmp 122) 137 rfl Tryz.underlying137 u32_info (w.heap.size + 1) hws' (Sha.toL s) (by rw [Sha.toL_len]; omega) (by rw [Sha.toL_len]; omega) hb hcap 8 rfl (HH.out.below HB0.out hhl) rfl rfl ?_; intro g0 cap0 w4 hg0 hr0 hb0; have HR0 := Lib.hid hr0; clear hr0)
          have hkb : WB w4 kb Sha.K := (HK.out.below HB0.out hkl).below hb0 (by omega)
          have hwb4 : WB w4 w.heap.size ws := HWB.out.below hb0 (by omega)
          have hhb4 : WB w4 hb (Sha.toL s) := (HH.out.below HB0.out hhl).below hb0 (by omega)
          have hb4 : Below w.heap.size w w4 := HB0.out.trans (hb0.mono (by omega))
          have hs4 : w.heap.size + 1 ≤ w4.heap.size := by have := hb0.size; omega
          have HKB := Lib.hid hkb; have HWB4 := Lib.hid hwb4; have HHB4 := Lib.hid hhb4; have HB4 := Lib.hid hb4
          have HR3 : Hid (R3 w4 w4 (w.heap.size + 1) g0 s) := Lib.hid ⟨hg0, HR0.out, Below.refl _ _⟩
          clear hkb hwb4 hhb4 hb4 hb0 hg0 HR0 HWB HB0 hws' hlt hj1 hj2
          go_loopw [12, 13] (fun v i wr => ∃ k : Nat, k ≤ 64 ∧ i = .int .i64 k ∧ ∃ g cap, v = .slice (some ⟨g, 0, none⟩) 8 cap ∧ ∃ t : Sha.St, Hid (t = Sha.rounds ws k s) ∧ Hid (R3 w4 wr (w.heap.size + 1) g t)) (fun _ i _ => 64 - (intOf i).toNat)
          case atStart => exact ⟨0, by omega, rfl, g0, cap0, rfl, s, rfl, HR3.out⟩
          case round =>
            obtain ⟨m, hm, rfl, g, cap, rfl, t, HT, HR⟩ := hrel
            clear HR3
            by_cases hlt3 : m < 64
            · have p4 : (m : Int) < 64 := by omega
              have d4 := HR.out.c4
              go_wp2
              go_quiet ((go_at_call 128; exact quiet_stay (turn_any _ _ (by decide) (by decide) _)))
              go_wp2
              refine codeWp_any (fun W => Hid (R3 w4 W (w.heap.size + 1) g t)) (Lib.hid (HR.out.drewN _)) (fun x1 X1 => ?_)
              clear d4 HR
              have d4 := X1.out.c4
              have d5 := X1.out.c5
              have d6 := X1.out.c6
              go_quiet (fail)
              go_wp2
              refine codeWp_any (fun W => Hid (R3 w4 W (w.heap.size + 1) g t)) (Lib.hid (X1.out.drewN _)) (fun x2 X2 => ?_)
              clear d4 d5 d6 X1
              have d7 := X2.out.c7
              have dk := (HKB.out.below X2.out.2.2 (HKB.out.lt (by decide))) m (by show m < 64; omega)
              have dw := (HWB4.out.below X2.out.2.2 (by omega)) m (by rw [HSL.out]; omega)
              go_quiet (fail)
              go_wp2
              refine codeWp_any (fun W => Hid (R3 w4 W (w.heap.size + 1) g t)) (Lib.hid (X2.out.drewN _)) (fun x3 X3 => ?_)
              clear d7 dk dw X2
              have d0 := X3.out.c0
              go_quiet ((go_at_call 128; exact quiet_stay (turn_any _ _ (by decide) (by decide) _)))
              go_wp2
              refine codeWp_any (fun W => Hid (R3 w4 W (w.heap.size + 1) g t)) (Lib.hid (X3.out.drewN _)) (fun x4 X4 => ?_)
              clear d0 X3
              have d0 := X4.out.c0
              have d1 := X4.out.c1
              have d2 := X4.out.c2
              go_quiet (fail)
              go_wp2
              refine codeWp_any (fun W => Hid (R3 w4 W (w.heap.size + 1) g t)) (Lib.hid (X4.out.drewN _)) (fun x5 X5 => ?_)
              clear d0 d1 d2 X4
              have d0 := X5.out.c0
              have d1 := X5.out.c1
              have d2 := X5.out.c2
              have d3 := X5.out.c3
              have d4 := X5.out.c4
              have d5 := X5.out.c5
              have d6 := X5.out.c6
              go_still_tail 28, (by kernel_rfl)
              change wpList _ _ _ _ _ x5.drew
              clear d0 d1 d2 d3 d4 d5 d6
              go_wp2
              go_roundw
              case rel =>
                refine ⟨m + 1, by omega, by go_num, x5.heap.size, 8, rfl, Sha.round t (Sha.at_ Sha.K m) (Sha.at_ ws m), Lib.hid (Sha.rounds_succ HT.out), Lib.hid ?_⟩
                refine (X5.out.drew).new hs4 _ _ ?_
                rw [Sha.round_eq]; rfl
              case measure => simp [intOf]; omega
            · have HM : Hid (m = 64) := by unfold Hid; omega
              have hwr : WR wr g (addTo (Sha.toL t) (Sha.toL s) 0) := HR.out.2.1
              have hbl4 : Below w.heap.size w wr := HB4.out.trans (HR.out.2.2.mono (by omega))
              have hg : w.heap.size < g := HR.out.1
              have H0 : Hid (WR wr g (addTo (Sha.toL t) (Sha.toL s) 0) ∧ Below w.heap.size w wr) := Lib.hid ⟨hwr, hbl4⟩
              clear hwr hbl4 HR
              go_wp2
              refine codeWp_any (fun W => Hid (WR W g (addTo (Sha.toL t) (Sha.toL s) 0) ∧ Below w.heap.size w W)) H0 (fun y0 Y0 => ?_)
              clear H0
              go_loopw [18] (fun i wr => ∃ k : Nat, k ≤ 8 ∧ i = .int .i64 k ∧ Hid (WR wr g (addTo (Sha.toL t) (Sha.toL s) k) ∧ Below w.heap.size w wr)) (fun i _ => 8 - (intOf i).toNat)
              case atStart => exact ⟨0, by omega, rfl, Y0.out⟩
              case round =>
                obtain ⟨r, hr, rfl, HY⟩ := hrel
                clear Y0
                have hl8 : (addTo (Sha.toL t) (Sha.toL s) r).length = 8 := by rw [addTo_len, Sha.toL_len]
                by_cases hlt4 : r < 8
                · have p4 : (r : Int) < 8 := by omega
                  have dv := HY.out.1.wb r (by rw [hl8]; exact hlt4)
                  have dh := (HH.out.below HY.out.2 hhl) r (by rw [Sha.toL_len]; exact hlt4)
                  have df := HY.out.1.frozen r
                  have HL8 := Lib.hid hl8; clear hl8
                  go_wp2
                  go_still_tail 10, (by kernel_rfl)
                  change wpList _ _ _ _ _ wr.drew
                  clear dh p4
                  go_wp2
                  go_roundw
                  case rel =>
                    refine ⟨r + 1, by omega, by go_num, Lib.hid ⟨?_, ?_⟩⟩
                    · rw [addTo]
                      exact WR.set (w := wr.drew) HY.out.1 (by rw [HL8.out]; exact hlt4) _
                    · exact HY.out.2.drew.setCell (by simp; omega) _
                  case measure => simp [intOf]; omega
                · have HR8 : Hid (r = 8) := by unfold Hid; omega
                  go_wp2
                  go_ret
                  have hfin : addTo (Sha.toL t) (Sha.toL s) r = Sha.toL (Sha.mixL s us) := by
                    rw [HR8.out, addTo_eight, HT.out, HM.out, HWS.out]; rfl
                  exact ⟨g, cap, rfl, by rw [← hfin]; exact HY.out.1.wb, HY.out.2⟩
end Go.Proofs.YtnmpbjgccbnomaaGreat
