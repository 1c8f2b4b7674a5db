import Derived.Test.YtnmpbjgccbnomaaPackAL
import Derived.Test.YtnmpbjgccbnomaaGGraphP
import Derived.Test.YtnmpbjgccbnomaaPackAK
import Derived.Deep.CutBlock
import Derived.Deep.DeepCutAuto
/- Plain facts on how many edges leave and come. -/
namespace Go.Proofs.Ytnmpbjgccbnomaa
open Go.RowKit
/-- How many edges leave, or come to, the keys below k. -/
def outUp (l : List Edg) : Nat → Nat
  | 0 => 0
  | k + 1 => outUp l k + (outS l (k : Int)).length
def inUp (l : List Edg) : Nat → Nat
  | 0 => 0
  | k + 1 => inUp l k + (inS l (k : Int)).length
theorem outS_cons (e : Edg) (l : List Edg) (k : Int) : (outS (e :: l) k).length = (if e.fr = k then 1 else 0) + (outS l k).length := by
  unfold outS
  rw [List.flatMap_cons, List.length_append]
  split <;> rfl
theorem inS_cons (e : Edg) (l : List Edg) (k : Int) : (inS (e :: l) k).length = (if e.tu = k then 1 else 0) + (inS l k).length := by
  unfold inS
  rw [List.flatMap_cons, List.length_append]
  split <;> rfl
theorem outUp_cons (e : Edg) (l : List Edg) (h0 : 0 ≤ e.fr) : ∀ k : Nat, outUp (e :: l) k = outUp l k + (if e.fr < (k : Int) then 1 else 0)
  | 0 => by rw [if_neg (by omega)]; rfl
  | k + 1 => by
    unfold outUp
    rw [outUp_cons e l h0 k, outS_cons]
    by_cases h1 : e.fr < (k : Int)
    · rw [if_pos h1, if_neg (by omega), if_pos (by omega)]; omega
    · by_cases h2 : e.fr = (k : Int)
      · rw [if_neg h1, if_pos h2, if_pos (by omega)]; omega
      · rw [if_neg h1, if_neg h2, if_neg (by omega)]; omega
theorem inUp_cons (e : Edg) (l : List Edg) (h0 : 0 ≤ e.tu) : ∀ k : Nat, inUp (e :: l) k = inUp l k + (if e.tu < (k : Int) then 1 else 0)
  | 0 => by rw [if_neg (by omega)]; rfl
  | k + 1 => by
    unfold inUp
    rw [inUp_cons e l h0 k, inS_cons]
    by_cases h1 : e.tu < (k : Int)
    · rw [if_pos h1, if_neg (by omega), if_pos (by omega)]; omega
    · by_cases h2 : e.tu = (k : Int)
      · rw [if_neg h1, if_pos h2, if_pos (by omega)]; omega
      · rw [if_neg h1, if_neg h2, if_neg (by omega)]; omega
theorem outUp_nil : ∀ k, outUp [] k = 0
  | 0 => rfl
  | k + 1 => by unfold outUp; rw [outUp_nil k]; rfl
theorem inUp_nil : ∀ k, inUp [] k = 0
  | 0 => rfl
  | k + 1 => by unfold inUp; rw [inUp_nil k]; rfl
theorem outUp_all (k : Nat) : ∀ l : List Edg, (∀ e ∈ l, 0 ≤ e.fr ∧ e.fr < (k : Int)) → outUp l k = l.length
  | [], _ => outUp_nil k
  | e :: l, h => by
    have h1 := h e (List.mem_cons_self ..)
    rw [outUp_cons e l h1.1, outUp_all k l (fun x hx => h x (List.mem_cons_of_mem _ hx)), if_pos h1.2]; rfl
theorem inUp_all (k : Nat) : ∀ l : List Edg, (∀ e ∈ l, 0 ≤ e.tu ∧ e.tu < (k : Int)) → inUp l k = l.length
  | [], _ => inUp_nil k
  | e :: l, h => by
    have h1 := h e (List.mem_cons_self ..)
    rw [inUp_cons e l h1.1, inUp_all k l (fun x hx => h x (List.mem_cons_of_mem _ hx)), if_pos h1.2]; rfl
theorem outUp_le (l : List Edg) (h : ∀ e ∈ l, 0 ≤ e.fr) (k : Nat) : outUp l k ≤ l.length := by
  induction l with
  | nil => rw [outUp_nil]; exact Nat.le_refl _
  | cons e l ih =>
    rw [outUp_cons e l (h e (List.mem_cons_self ..))]
    have := ih fun x hx => h x (List.mem_cons_of_mem _ hx)
    rw [List.length_cons]
    split <;> omega
theorem inUp_le (l : List Edg) (h : ∀ e ∈ l, 0 ≤ e.tu) (k : Nat) : inUp l k ≤ l.length := by
  induction l with
  | nil => rw [inUp_nil]; exact Nat.le_refl _
  | cons e l ih =>
    rw [inUp_cons e l (h e (List.mem_cons_self ..))]
    have := ih fun x hx => h x (List.mem_cons_of_mem _ hx)
    rw [List.length_cons]
    split <;> omega
theorem Good11.keys {G : Gr} (h : Good11 G) : (∀ e ∈ G.es, 0 ≤ e.fr ∧ e.fr < G.sz) ∧ (∀ e ∈ G.es, 0 ≤ e.tu ∧ e.tu < G.sz) := by
  have hk : ∀ e ∈ G.es, (0 ≤ e.fr ∧ e.fr < G.sz) ∧ (0 ≤ e.tu ∧ e.tu < G.sz) := fun e he => by
    have h1 := h.ends e he
    unfold endsB keyB at h1
    rw [Bool.and_eq_true, Bool.and_eq_true, Bool.and_eq_true, Bool.and_eq_true, decide_eq_true_eq, decide_eq_true_eq, decide_eq_true_eq, decide_eq_true_eq] at h1
    exact ⟨h1.1, h1.2.1⟩
  exact ⟨fun e he => (hk e he).1, fun e he => (hk e he).2⟩
/-- Out and In tell of the same edges. -/
theorem out_in {l : List Edg} {k : Int} {i : Nat} (hi : i < (outS l k).length) : hasI (inS l ((outS l k).getD i 0)) k = true := by
  have hm : (outS l k).getD i 0 ∈ outS l k := by rw [getDI hi]; exact List.getElem_mem hi
  generalize (outS l k).getD i 0 = x at *
  rw [hasI_iff]
  unfold outS at hm
  obtain ⟨e, he, hx⟩ := List.mem_flatMap.1 hm
  unfold inS
  refine List.mem_flatMap.2 ⟨e, he, ?_⟩
  split at hx
  · rename_i hf
    rw [List.mem_singleton] at hx
    rw [if_pos hx.symm, List.mem_singleton]
    exact hf.symm
  · exact absurd hx (by simp)
theorem GOwn.but {D : Nat} {w w' : World} {B : Nat} {G : Gr} {v : Value} (h : GOwn w B G v) (hb : But D w w') (hD : D < B) : GOwn w' B G v := by
  obtain ⟨e, g, rfl, h1, h2⟩ := h
  exact ⟨e, g, rfl, own_keepL h1 fun q hq => hb.block q (own_lt h1 q hq) (by have := own_ge h1 q hq; omega), own_keepL h2 fun q hq => hb.block q (own_lt h2 q hq) (by have := own_ge h2 q hq; omega)⟩
theorem with_one {G : Gr} {e : Edg} (h : (withG G e).2 = 0) : (withG G e).1.es.length = G.es.length + 1 := by
  obtain ⟨-, -, h3, -⟩ := with_good h
  rw [h3]
  have := idxE_le e G.es
  simp only [List.length_append, List.length_take, List.length_cons, List.length_drop]
  omega
end Go.Proofs.Ytnmpbjgccbnomaa
/- Plain facts on what counts: how many, and one resignation an author. -/
namespace Go.Proofs.Ytnmpbjgccbnomaa
open Go.RowKit
end Go.Proofs.Ytnmpbjgccbnomaa
/- The walk of the law GraphAt, over any program that gives what layer 11 asks. -/
namespace Go.Proofs.Ytnmpbjgccbnomaa
open Go.RowKit
theorem refsame_self (G : Gr) (v u : Value) (w : World) (h : GHold w G v) (h2 : GHold w G u) (he : G.es.length ≤ 100000) (hg : G.gn.length ≤ 100000) : Calls Try.prog 9 #[v, u] w (SaysL (.bool true) w) := by
  obtain ⟨A, n, c, B, m, k, rfl, ha, hb⟩ := h
  obtain ⟨A2, n2, c2, B2, m2, k2, rfl, ha2, hb2⟩ := h2
  have hn : n ≤ 100000 := by rw [← ERow.len ha]; exact he
  have hm : m ≤ 100000 := by rw [← hb.len]; exact hg
  have h := gsame_any G.sz A n c G.es B m k G.gn G.sz A2 n2 c2 G.es B2 m2 k2 G.gn w ha hb ha2 hb2 hn hm
  rwa [sameG_self] at h
end Go.Proofs.Ytnmpbjgccbnomaa
/- The walk of the law GraphUndone, over any program that gives what layer 11 asks. -/
namespace Go.Proofs.Ytnmpbjgccbnomaa
open Go.RowKit
set_option maxRecDepth 100000 in
set_option maxHeartbeats 40000000 in
theorem gundone_any (H : GraphC) (TA : Option Addr) (tn tc : Nat) (t : List Int) (w : World) (ht : IRow w TA tn tc t) :
    Calls Try.prog 5 #[.slice TA tn tc] w (SaysL (.bool true) w) := by
  have HAW : Hid (∀ y, Calls Try.prog 6 #[] y (SaysL (.bool true) y)) := Lib.hid fun y => awake11_any H y
  have HT := Lib.hid ht; clear ht
  go_enter Try.func5, Try.ntmps5
  go_wp2_with fail
  refine (light_any TA tn tc w).mono ?_
  rintro e w0 ⟨rfl, rfl⟩
  by_cases hn : tn ≤ 400
  · have gd : decide (tn ≤ 400) = true := decide_eq_true hn
    go_wp2_with fail
    clear gd
    refine (roll_any w.heap.size TA tn tc t w HT.out (by omega) (Nat.le_refl _) (fun ad e h0 => Row.lt HT.out (by decide) ad e h0)).mono ?_
    rintro e w1 ⟨rfl, hd, hb⟩
    obtain ⟨D, hD⟩ : ∃ D, D = w.heap.size := ⟨_, rfl⟩
    have HD : Hid (∃ kd, DiceAt w1 w.heap.size D t kd) := Lib.hid ⟨0, by rw [hD]; exact hd⟩
    have HB := Lib.hid hb
    have HDD : Hid (w.heap.size = D) := Lib.hid hD.symm
    rw [← hD]
    clear hd hb hD HT
    go_wp2_with fail
    refine (ggraph_g w.heap.size D t w1 HD.out).mono ?_
    rintro e w2 ⟨v0, G, rfl, ho, hgd, hsz, hone, hg⟩
    have HDP : Hid (D < w1.heap.size) := Lib.hid (by obtain ⟨kd, hk⟩ := HD.out; exact hk.lt)
    have HGD := Lib.hid hgd; have hsz2 := hsz; have hs64 := hgd.hi
    replace HB := Lib.hid (HB.out.trans (hg.2.below (by have := HDD.out; omega) HB.out.size))
    replace HD := Lib.hid hg.1
    have HDG : Hid (D < w2.heap.size) := Lib.hid (by obtain ⟨kd, hk⟩ := HD.out; exact hk.lt)
    have HO := Lib.hid ho
    obtain ⟨A, n, c, B, m, k, hve, ha, hh⟩ := ho.hold
    have HNL : Hid (G.es.length = n) := Lib.hid (ERow.len ha)
    have HVE := Lib.hid hve
    generalize w1.heap.size = P at *
    clear hgd hsz hone hg ho ha hh
    rw [hve]
    clear hve
    go_upto_region 5 with (refine wpList_store_new rfl 25 (.tmp 4) (.tmp 22) rfl 25 _ #[.int .i64 G.sz, .slice A n c, .slice B m k] rfl rfl gr_size rfl (by simp [Value.oneCell']) ?_)
    have hb := one_new w2 (.cells #[.int .i64 G.sz, .slice A n c, .slice B m k] 25)
    have HC0 : Hid ((w2.alloc (.cells #[.int .i64 G.sz, .slice A n c, .slice B m k] 25)).heap[w2.heap.size]? = some (.cells #[.int .i64 G.sz, .slice A n c, .slice B m k] 25 (0, 0))) := Lib.hid (heap_alloc_new _ _)
    replace HO := Lib.hid (HO.out.later hb)
    replace HB := Lib.hid (HB.out.trans (hb.mono HB.out.size))
    replace HD : Hid (∃ kd, DiceAt (w2.alloc (.cells #[.int .i64 G.sz, .slice A n c, .slice B m k] 25)) w.heap.size D t kd) := Lib.hid (by obtain ⟨kd, hk⟩ := HD.out; exact ⟨kd, hk.later hb⟩)
    clear hb
    generalize w2.alloc (.cells #[.int .i64 G.sz, .slice A n c, .slice B m k] 25) = y0 at *
    generalize w2.heap.size = g0 at *
    try dsimp only [Act.put]
    go_cut [5] (fun v5 wx => ∃ (g5 : Nat) (e : Edg), v5 = .pointer (some ⟨g5, 0, none⟩) ∧ Hid ((Below w.heap.size w wx ∧ wx.heap[g0]? = some (.cells #[.int .i64 G.sz, .slice A n c, .slice B m k] 25 (0, 0)) ∧ GHold wx G v0) ∧ wx.heap[g5]? = some (.cells e.arr 27 (0, 0))))
    case first =>
      obtain ⟨n0, hn0⟩ : ∃ n0, y0.drew.heap.size = n0 := ⟨_, rfl⟩
      refine wp_region_flow (by kernel_rfl) (BN D n0) ?_
      have HS : Hid ((∃ kd, DiceAt y0.drew w.heap.size D t kd) ∧ GOwn y0.drew P G v0 ∧ Below w.heap.size w y0.drew ∧ y0.drew.heap[g0]? = some (.cells #[.int .i64 G.sz, .slice A n c, .slice B m k] 25 (0, 0))) := Lib.hid (by
        have hb : Below y0.heap.size y0 y0.drew := (Below.refl _ _).drew
        refine ⟨?_, HO.out.later hb, HB.out.trans (hb.mono HB.out.size), HC0.out⟩
        obtain ⟨kd, hk⟩ := HD.out
        exact ⟨kd, hk.later hb⟩)
      have HN : Hid (n0 ≤ y0.drew.heap.size) := Lib.hid (Nat.le_of_eq hn0.symm)
      have HNE : Hid (y0.drew.heap.size ≤ n0) := Lib.hid (Nat.le_of_eq hn0)
      have HGN : Hid (g0 < n0) := Lib.hid (by rw [← hn0]; exact (Array.getElem?_eq_some_iff.1 HS.out.2.2.2).1)
      clear hn0 HO HB HC0 HD
      generalize y0.drew = z0 at *
      have hgn := HGN.out; have hdg := HDG.out
      have hf0 : ∀ x, (fut (BN D n0) z0 x).cell? ⟨g0, 0, none⟩ = some (.int .i64 G.sz) := fun x => (cell_of_row _ _ 0 _ _ _ (((fut_ok (BN.refl D n0) z0 x).keep g0 hgn (by omega)).trans HS.out.2.2.2)).trans rfl
      refine flow_reads (F := BN D n0) (fun _ => BN.refl _ _ _) (by kernel_rfl) [0, 1, 2, 4, 5, 6, 8] (fuel := 7) (by kernel_rfl) ?_
      simp only [List.map_cons, List.map_nil, pick, List.getD_cons_zero, List.getD_cons_succ]
      repeat (go_big_quiet_step (fail))
      refine wpQuiet_nil ?_
      clear hf0
      have HOB : Hid (∀ e gv, v0 = .agg #[.int .i64 G.sz, e, gv] → ∀ q, e.ownBlock = some q ∨ gv.ownBlock = some q → ∀ {g : Nat}, n0 ≤ g → q ≠ g) := Lib.hid (by
        intro e gv he q hq g hg
        obtain ⟨e2, g2, he2, h1, h2⟩ := HS.out.2.1
        rw [he] at he2
        injection he2 with he2
        simp only [Array.mk.injEq, List.cons.injEq, true_and, and_true] at he2
        obtain ⟨rfl, rfl⟩ := he2
        have hz : z0.heap.size ≤ n0 := HNE.out
        rcases hq with hq | hq
        · have := own_lt h1 q hq; omega
        · have := own_lt h2 q hq; omega)
      have HWG : Hid (w.heap.size ≤ n0) := Lib.hid (Nat.le_trans HS.out.2.2.1.size HNE.out)
      refine flow_two (F := BN D n0) (fun _ _ _ => BN.trans) (fun _ => BN.refl _ _ _) 3 12 (by kernel_rfl) (by decide) (by decide) ?_ ?_ <;> simp only [pick, List.getD_cons_zero, List.getD_cons_succ]
      · skip
        go_wp2_with fail
        refine (next_g w.heap.size D t G.sz z0 HS.out.1 (by omega) (by omega)).mono ?_
        rintro e z1 ⟨v0e, rfl, hv0e0, hv0e1, hg⟩
        have HF : Hid (BN D n0 z0 z1) := Lib.hid (BN.but hg.2 HN.out)
        replace HN := Lib.hid (Nat.le_trans HN.out hg.2.size)
        replace HS : Hid ((∃ kd, DiceAt z1 w.heap.size D t kd) ∧ GOwn z1 P G v0 ∧ Below w.heap.size w z1 ∧ z1.heap[g0]? = some (.cells #[.int .i64 G.sz, .slice A n c, .slice B m k] 25 (0, 0))) := Lib.hid ⟨hg.1, HS.out.2.1.but hg.2 HDP.out, HS.out.2.2.1.trans (hg.2.below (by have := HDD.out; omega) HS.out.2.2.1.size), (hg.2.block g0 (Array.getElem?_eq_some_iff.1 HS.out.2.2.2).1 (by omega)).trans HS.out.2.2.2⟩
        clear hg
        go_wp2_with fail
        refine pieceEnd_normal ⟨HF.out, ?_⟩
        clear HF
        refine flow_two (F := BN D n0) (fun _ _ _ => BN.trans) (fun _ => BN.refl _ _ _) 7 12 (by kernel_rfl) (by decide) (by decide) ?_ ?_ <;> simp only [pick, List.getD_cons_zero, List.getD_cons_succ]
        · skip
          go_wp2_with fail
          refine (next_g w.heap.size D t G.sz z1 HS.out.1 (by omega) (by omega)).mono ?_
          rintro e z2 ⟨v1e, rfl, hv1e0, hv1e1, hg⟩
          have HF : Hid (BN D n0 z1 z2) := Lib.hid (BN.but hg.2 HN.out)
          replace HN := Lib.hid (Nat.le_trans HN.out hg.2.size)
          replace HS : Hid ((∃ kd, DiceAt z2 w.heap.size D t kd) ∧ GOwn z2 P G v0 ∧ Below w.heap.size w z2 ∧ z2.heap[g0]? = some (.cells #[.int .i64 G.sz, .slice A n c, .slice B m k] 25 (0, 0))) := Lib.hid ⟨hg.1, HS.out.2.1.but hg.2 HDP.out, HS.out.2.2.1.trans (hg.2.below (by have := HDD.out; omega) HS.out.2.2.1.size), (hg.2.block g0 (Array.getElem?_eq_some_iff.1 HS.out.2.2.2).1 (by omega)).trans HS.out.2.2.2⟩
          clear hg
          go_wp2_with fail
          refine pieceEnd_normal ⟨HF.out, ?_⟩
          clear HF
          refine flow_two (F := BN D n0) (fun _ _ _ => BN.trans) (fun _ => BN.refl _ _ _) 9 12 (by kernel_rfl) (by decide) (by decide) ?_ ?_ <;> simp only [pick, List.getD_cons_zero, List.getD_cons_succ]
          · skip
            go_wp2_with fail
            refine (next_g w.heap.size D t 3 z2 HS.out.1 (by omega) (by omega)).mono ?_
            rintro e z3 ⟨v2e, rfl, hv2e0, hv2e1, hg⟩
            have HF : Hid (BN D n0 z2 z3) := Lib.hid (BN.but hg.2 HN.out)
            replace HN := Lib.hid (Nat.le_trans HN.out hg.2.size)
            replace HS : Hid ((∃ kd, DiceAt z3 w.heap.size D t kd) ∧ GOwn z3 P G v0 ∧ Below w.heap.size w z3 ∧ z3.heap[g0]? = some (.cells #[.int .i64 G.sz, .slice A n c, .slice B m k] 25 (0, 0))) := Lib.hid ⟨hg.1, HS.out.2.1.but hg.2 HDP.out, HS.out.2.2.1.trans (hg.2.below (by have := HDD.out; omega) HS.out.2.2.1.size), (hg.2.block g0 (Array.getElem?_eq_some_iff.1 HS.out.2.2.2).1 (by omega)).trans HS.out.2.2.2⟩
            clear hg
            go_wp2_with fail
            refine pieceEnd_normal ⟨HF.out, ?_⟩
            clear HF
            refine flow_val (F := BN D n0) (fun _ => BN.refl _ _ _) (by kernel_rfl) 10 (by kernel_rfl) ?_
            simp only [pick, List.getD_cons_zero, List.getD_cons_succ]
            repeat (go_big_quiet_step (fail))
            refine wpQuiet_nil ?_
            refine flow_val (F := BN D n0) (fun _ => BN.refl _ _ _) (by kernel_rfl) 11 (by kernel_rfl) ?_
            simp only [pick, List.getD_cons_zero, List.getD_cons_succ]
            repeat (go_big_quiet_step (fail))
            refine wpQuiet_nil ?_
            refine flow_one (F := BN D n0) (fun _ _ _ => BN.trans) (fun _ => BN.refl _ _ _) 12 (by kernel_rfl) (by decide) ?_
            simp only [pick, List.getD_cons_zero, List.getD_cons_succ]
            go_wp2_with fail
            have hb := one_new z3 (.cells #[.int .i64 0, .int .i64 0, .int .i64 0] 27)
            refine pieceEnd_normal ⟨BN.later hb HN.out, ?_⟩
            have HA : Hid ((z3.alloc (.cells #[.int .i64 0, .int .i64 0, .int .i64 0] 27)).heap[z3.heap.size]? = some (.cells #[.int .i64 0, .int .i64 0, .int .i64 0] 27 (0, 0))) := Lib.hid (heap_alloc_new _ _)
            have hg5 : n0 ≤ z3.heap.size := HN.out
            replace HS : Hid ((∃ kd, DiceAt (z3.alloc (.cells #[.int .i64 0, .int .i64 0, .int .i64 0] 27)) w.heap.size D t kd) ∧ GOwn (z3.alloc (.cells #[.int .i64 0, .int .i64 0, .int .i64 0] 27)) P G v0 ∧ Below w.heap.size w (z3.alloc (.cells #[.int .i64 0, .int .i64 0, .int .i64 0] 27)) ∧ (z3.alloc (.cells #[.int .i64 0, .int .i64 0, .int .i64 0] 27)).heap[g0]? = some (.cells #[.int .i64 G.sz, .slice A n c, .slice B m k] 25 (0, 0))) := Lib.hid ⟨(by obtain ⟨kd, hk⟩ := HS.out.1; exact ⟨kd, hk.later hb⟩), HS.out.2.1.later hb, HS.out.2.2.1.trans (hb.mono HS.out.2.2.1.size), (hb.block g0 (Array.getElem?_eq_some_iff.1 HS.out.2.2.2).1).trans HS.out.2.2.2⟩
            replace HN := Lib.hid (Nat.le_trans HN.out hb.size)
            clear hb
            generalize z3.alloc (.cells #[.int .i64 0, .int .i64 0, .int .i64 0] 27) = z4 at *
            generalize z3.heap.size = g5 at *
            refine flow_one (F := BN D n0) (fun _ _ _ => BN.trans) (fun _ => BN.refl _ _ _) 13 (by kernel_rfl) (by decide) ?_
            simp only [pick, List.getD_cons_zero, List.getD_cons_succ]
            go_wp2_with (refine wpList_store_row rfl 27 (.tmp 5) (.tmp 34) rfl g5 #[.int .i64 v0e, .int .i64 v1e, .int .i64 (1 + v2e)] rfl rfl 27 _ HA.out (Edg.info ⟨v0e, v1e, 1 + v2e⟩) rfl (by simp [Value.oneCell']) ?_)
            refine pieceEnd_normal ⟨BN.row _ _ hg5, ?_⟩
            have HA5 := Lib.hid (setRow_heap z4 g5 _ #[.int .i64 v0e, .int .i64 v1e, .int .i64 (1 + v2e)] _ _ HA.out)
            have HGO : Hid (g0 ≠ g5) := Lib.hid (by omega)
            have HOW : Hid (GHold (z4.setRow g5 #[.int .i64 v0e, .int .i64 v1e, .int .i64 (1 + v2e)]) G v0) := Lib.hid (by
              obtain ⟨e, gv, he, h1, h2⟩ := HS.out.2.1
              have hne : ∀ q, q < n0 → q ≠ g5 := fun q hq => by omega
              exact GOwn.hold ⟨e, gv, he, own_keepL h1 fun q hq => setRow_other z4 g5 q #[.int .i64 v0e, .int .i64 v1e, .int .i64 (1 + v2e)] (HOB.out e gv he q (.inl hq) hg5), own_keepL h2 fun q hq => setRow_other z4 g5 q #[.int .i64 v0e, .int .i64 v1e, .int .i64 (1 + v2e)] (HOB.out e gv he q (.inr hq) hg5)⟩)
            refine flow_done (by kernel_rfl) ?_
            go_wp2_with fail
            go_meet
            exact ⟨g5, ⟨v0e, v1e, 1 + v2e⟩, rfl, Lib.hid ⟨⟨HS.out.2.2.1.trans (below_setRow (Below.refl _ _) (by have := HS.out.2.2.1.size; have h8 := HWG.out; omega) #[.int .i64 v0e, .int .i64 v1e, .int .i64 (1 + v2e)]), (setRow_other z4 g5 g0 #[.int .i64 v0e, .int .i64 v1e, .int .i64 (1 + v2e)] HGO.out).trans HS.out.2.2.2, HOW.out⟩, HA5.out⟩⟩
          · skip
            go_wp2_with fail
            have hb := one_new z2 (.cells #[.int .i64 0, .int .i64 0, .int .i64 0] 27)
            refine pieceEnd_normal ⟨BN.later hb HN.out, ?_⟩
            have HA : Hid ((z2.alloc (.cells #[.int .i64 0, .int .i64 0, .int .i64 0] 27)).heap[z2.heap.size]? = some (.cells #[.int .i64 0, .int .i64 0, .int .i64 0] 27 (0, 0))) := Lib.hid (heap_alloc_new _ _)
            have hg5 : n0 ≤ z2.heap.size := HN.out
            replace HS : Hid ((∃ kd, DiceAt (z2.alloc (.cells #[.int .i64 0, .int .i64 0, .int .i64 0] 27)) w.heap.size D t kd) ∧ GOwn (z2.alloc (.cells #[.int .i64 0, .int .i64 0, .int .i64 0] 27)) P G v0 ∧ Below w.heap.size w (z2.alloc (.cells #[.int .i64 0, .int .i64 0, .int .i64 0] 27)) ∧ (z2.alloc (.cells #[.int .i64 0, .int .i64 0, .int .i64 0] 27)).heap[g0]? = some (.cells #[.int .i64 G.sz, .slice A n c, .slice B m k] 25 (0, 0))) := Lib.hid ⟨(by obtain ⟨kd, hk⟩ := HS.out.1; exact ⟨kd, hk.later hb⟩), HS.out.2.1.later hb, HS.out.2.2.1.trans (hb.mono HS.out.2.2.1.size), (hb.block g0 (Array.getElem?_eq_some_iff.1 HS.out.2.2.2).1).trans HS.out.2.2.2⟩
            replace HN := Lib.hid (Nat.le_trans HN.out hb.size)
            clear hb
            generalize z2.alloc (.cells #[.int .i64 0, .int .i64 0, .int .i64 0] 27) = z5 at *
            generalize z2.heap.size = g5 at *
            refine flow_one (F := BN D n0) (fun _ _ _ => BN.trans) (fun _ => BN.refl _ _ _) 9 (by kernel_rfl) (by decide) ?_
            simp only [pick, List.getD_cons_zero, List.getD_cons_succ]
            go_wp2_with fail
            refine (next_g w.heap.size D t 3 z5 HS.out.1 (by omega) (by omega)).mono ?_
            rintro e z6 ⟨v2e, rfl, hv2e0, hv2e1, hg⟩
            have HF : Hid (BN D n0 z5 z6) := Lib.hid (BN.but hg.2 HN.out)
            replace HN := Lib.hid (Nat.le_trans HN.out hg.2.size)
            replace HA : Hid (z6.heap[g5]? = some (.cells #[.int .i64 0, .int .i64 0, .int .i64 0] 27 (0, 0))) := Lib.hid ((hg.2.block g5 (Array.getElem?_eq_some_iff.1 HA.out).1 (by omega)).trans HA.out)
            replace HS : Hid ((∃ kd, DiceAt z6 w.heap.size D t kd) ∧ GOwn z6 P G v0 ∧ Below w.heap.size w z6 ∧ z6.heap[g0]? = some (.cells #[.int .i64 G.sz, .slice A n c, .slice B m k] 25 (0, 0))) := Lib.hid ⟨hg.1, HS.out.2.1.but hg.2 HDP.out, HS.out.2.2.1.trans (hg.2.below (by have := HDD.out; omega) HS.out.2.2.1.size), (hg.2.block g0 (Array.getElem?_eq_some_iff.1 HS.out.2.2.2).1 (by omega)).trans HS.out.2.2.2⟩
            clear hg
            go_wp2_with fail
            refine pieceEnd_normal ⟨HF.out, ?_⟩
            clear HF
            refine flow_val (F := BN D n0) (fun _ => BN.refl _ _ _) (by kernel_rfl) 10 (by kernel_rfl) ?_
            simp only [pick, List.getD_cons_zero, List.getD_cons_succ]
            repeat (go_big_quiet_step (fail))
            refine wpQuiet_nil ?_
            refine flow_val (F := BN D n0) (fun _ => BN.refl _ _ _) (by kernel_rfl) 11 (by kernel_rfl) ?_
            simp only [pick, List.getD_cons_zero, List.getD_cons_succ]
            repeat (go_big_quiet_step (fail))
            refine wpQuiet_nil ?_
            refine flow_one (F := BN D n0) (fun _ _ _ => BN.trans) (fun _ => BN.refl _ _ _) 13 (by kernel_rfl) (by decide) ?_
            simp only [pick, List.getD_cons_zero, List.getD_cons_succ]
            go_wp2_with (refine wpList_store_row rfl 27 (.tmp 5) (.tmp 34) rfl g5 #[.int .i64 v0e, .int .i64 v1e, .int .i64 (1 + v2e)] rfl rfl 27 _ HA.out (Edg.info ⟨v0e, v1e, 1 + v2e⟩) rfl (by simp [Value.oneCell']) ?_)
            refine pieceEnd_normal ⟨BN.row _ _ hg5, ?_⟩
            have HA5 := Lib.hid (setRow_heap z6 g5 _ #[.int .i64 v0e, .int .i64 v1e, .int .i64 (1 + v2e)] _ _ HA.out)
            have HGO : Hid (g0 ≠ g5) := Lib.hid (by omega)
            have HOW : Hid (GHold (z6.setRow g5 #[.int .i64 v0e, .int .i64 v1e, .int .i64 (1 + v2e)]) G v0) := Lib.hid (by
              obtain ⟨e, gv, he, h1, h2⟩ := HS.out.2.1
              have hne : ∀ q, q < n0 → q ≠ g5 := fun q hq => by omega
              exact GOwn.hold ⟨e, gv, he, own_keepL h1 fun q hq => setRow_other z6 g5 q #[.int .i64 v0e, .int .i64 v1e, .int .i64 (1 + v2e)] (HOB.out e gv he q (.inl hq) hg5), own_keepL h2 fun q hq => setRow_other z6 g5 q #[.int .i64 v0e, .int .i64 v1e, .int .i64 (1 + v2e)] (HOB.out e gv he q (.inr hq) hg5)⟩)
            refine flow_done (by kernel_rfl) ?_
            go_wp2_with fail
            go_meet
            exact ⟨g5, ⟨v0e, v1e, 1 + v2e⟩, rfl, Lib.hid ⟨⟨HS.out.2.2.1.trans (below_setRow (Below.refl _ _) (by have := HS.out.2.2.1.size; have h8 := HWG.out; omega) #[.int .i64 v0e, .int .i64 v1e, .int .i64 (1 + v2e)]), (setRow_other z6 g5 g0 #[.int .i64 v0e, .int .i64 v1e, .int .i64 (1 + v2e)] HGO.out).trans HS.out.2.2.2, HOW.out⟩, HA5.out⟩⟩
        · skip
          go_wp2_with fail
          have hb := one_new z1 (.cells #[.int .i64 0, .int .i64 0, .int .i64 0] 27)
          refine pieceEnd_normal ⟨BN.later hb HN.out, ?_⟩
          have HA : Hid ((z1.alloc (.cells #[.int .i64 0, .int .i64 0, .int .i64 0] 27)).heap[z1.heap.size]? = some (.cells #[.int .i64 0, .int .i64 0, .int .i64 0] 27 (0, 0))) := Lib.hid (heap_alloc_new _ _)
          have hg5 : n0 ≤ z1.heap.size := HN.out
          replace HS : Hid ((∃ kd, DiceAt (z1.alloc (.cells #[.int .i64 0, .int .i64 0, .int .i64 0] 27)) w.heap.size D t kd) ∧ GOwn (z1.alloc (.cells #[.int .i64 0, .int .i64 0, .int .i64 0] 27)) P G v0 ∧ Below w.heap.size w (z1.alloc (.cells #[.int .i64 0, .int .i64 0, .int .i64 0] 27)) ∧ (z1.alloc (.cells #[.int .i64 0, .int .i64 0, .int .i64 0] 27)).heap[g0]? = some (.cells #[.int .i64 G.sz, .slice A n c, .slice B m k] 25 (0, 0))) := Lib.hid ⟨(by obtain ⟨kd, hk⟩ := HS.out.1; exact ⟨kd, hk.later hb⟩), HS.out.2.1.later hb, HS.out.2.2.1.trans (hb.mono HS.out.2.2.1.size), (hb.block g0 (Array.getElem?_eq_some_iff.1 HS.out.2.2.2).1).trans HS.out.2.2.2⟩
          replace HN := Lib.hid (Nat.le_trans HN.out hb.size)
          clear hb
          generalize z1.alloc (.cells #[.int .i64 0, .int .i64 0, .int .i64 0] 27) = z7 at *
          generalize z1.heap.size = g5 at *
          refine flow_one (F := BN D n0) (fun _ _ _ => BN.trans) (fun _ => BN.refl _ _ _) 7 (by kernel_rfl) (by decide) ?_
          simp only [pick, List.getD_cons_zero, List.getD_cons_succ]
          go_wp2_with fail
          refine (next_g w.heap.size D t G.sz z7 HS.out.1 (by omega) (by omega)).mono ?_
          rintro e z8 ⟨v1e, rfl, hv1e0, hv1e1, hg⟩
          have HF : Hid (BN D n0 z7 z8) := Lib.hid (BN.but hg.2 HN.out)
          replace HN := Lib.hid (Nat.le_trans HN.out hg.2.size)
          replace HA : Hid (z8.heap[g5]? = some (.cells #[.int .i64 0, .int .i64 0, .int .i64 0] 27 (0, 0))) := Lib.hid ((hg.2.block g5 (Array.getElem?_eq_some_iff.1 HA.out).1 (by omega)).trans HA.out)
          replace HS : Hid ((∃ kd, DiceAt z8 w.heap.size D t kd) ∧ GOwn z8 P G v0 ∧ Below w.heap.size w z8 ∧ z8.heap[g0]? = some (.cells #[.int .i64 G.sz, .slice A n c, .slice B m k] 25 (0, 0))) := Lib.hid ⟨hg.1, HS.out.2.1.but hg.2 HDP.out, HS.out.2.2.1.trans (hg.2.below (by have := HDD.out; omega) HS.out.2.2.1.size), (hg.2.block g0 (Array.getElem?_eq_some_iff.1 HS.out.2.2.2).1 (by omega)).trans HS.out.2.2.2⟩
          clear hg
          go_wp2_with fail
          refine pieceEnd_normal ⟨HF.out, ?_⟩
          clear HF
          refine flow_one (F := BN D n0) (fun _ _ _ => BN.trans) (fun _ => BN.refl _ _ _) 9 (by kernel_rfl) (by decide) ?_
          simp only [pick, List.getD_cons_zero, List.getD_cons_succ]
          go_wp2_with fail
          refine (next_g w.heap.size D t 3 z8 HS.out.1 (by omega) (by omega)).mono ?_
          rintro e z9 ⟨v2e, rfl, hv2e0, hv2e1, hg⟩
          have HF : Hid (BN D n0 z8 z9) := Lib.hid (BN.but hg.2 HN.out)
          replace HN := Lib.hid (Nat.le_trans HN.out hg.2.size)
          replace HA : Hid (z9.heap[g5]? = some (.cells #[.int .i64 0, .int .i64 0, .int .i64 0] 27 (0, 0))) := Lib.hid ((hg.2.block g5 (Array.getElem?_eq_some_iff.1 HA.out).1 (by omega)).trans HA.out)
          replace HS : Hid ((∃ kd, DiceAt z9 w.heap.size D t kd) ∧ GOwn z9 P G v0 ∧ Below w.heap.size w z9 ∧ z9.heap[g0]? = some (.cells #[.int .i64 G.sz, .slice A n c, .slice B m k] 25 (0, 0))) := Lib.hid ⟨hg.1, HS.out.2.1.but hg.2 HDP.out, HS.out.2.2.1.trans (hg.2.below (by have := HDD.out; omega) HS.out.2.2.1.size), (hg.2.block g0 (Array.getElem?_eq_some_iff.1 HS.out.2.2.2).1 (by omega)).trans HS.out.2.2.2⟩
          clear hg
          go_wp2_with fail
          refine pieceEnd_normal ⟨HF.out, ?_⟩
          clear HF
          refine flow_val (F := BN D n0) (fun _ => BN.refl _ _ _) (by kernel_rfl) 10 (by kernel_rfl) ?_
          simp only [pick, List.getD_cons_zero, List.getD_cons_succ]
          repeat (go_big_quiet_step (fail))
          refine wpQuiet_nil ?_
          refine flow_val (F := BN D n0) (fun _ => BN.refl _ _ _) (by kernel_rfl) 11 (by kernel_rfl) ?_
          simp only [pick, List.getD_cons_zero, List.getD_cons_succ]
          repeat (go_big_quiet_step (fail))
          refine wpQuiet_nil ?_
          refine flow_one (F := BN D n0) (fun _ _ _ => BN.trans) (fun _ => BN.refl _ _ _) 13 (by kernel_rfl) (by decide) ?_
          simp only [pick, List.getD_cons_zero, List.getD_cons_succ]
          go_wp2_with (refine wpList_store_row rfl 27 (.tmp 5) (.tmp 34) rfl g5 #[.int .i64 v0e, .int .i64 v1e, .int .i64 (1 + v2e)] rfl rfl 27 _ HA.out (Edg.info ⟨v0e, v1e, 1 + v2e⟩) rfl (by simp [Value.oneCell']) ?_)
          refine pieceEnd_normal ⟨BN.row _ _ hg5, ?_⟩
          have HA5 := Lib.hid (setRow_heap z9 g5 _ #[.int .i64 v0e, .int .i64 v1e, .int .i64 (1 + v2e)] _ _ HA.out)
          have HGO : Hid (g0 ≠ g5) := Lib.hid (by omega)
          have HOW : Hid (GHold (z9.setRow g5 #[.int .i64 v0e, .int .i64 v1e, .int .i64 (1 + v2e)]) G v0) := Lib.hid (by
            obtain ⟨e, gv, he, h1, h2⟩ := HS.out.2.1
            have hne : ∀ q, q < n0 → q ≠ g5 := fun q hq => by omega
            exact GOwn.hold ⟨e, gv, he, own_keepL h1 fun q hq => setRow_other z9 g5 q #[.int .i64 v0e, .int .i64 v1e, .int .i64 (1 + v2e)] (HOB.out e gv he q (.inl hq) hg5), own_keepL h2 fun q hq => setRow_other z9 g5 q #[.int .i64 v0e, .int .i64 v1e, .int .i64 (1 + v2e)] (HOB.out e gv he q (.inr hq) hg5)⟩)
          refine flow_done (by kernel_rfl) ?_
          go_wp2_with fail
          go_meet
          exact ⟨g5, ⟨v0e, v1e, 1 + v2e⟩, rfl, Lib.hid ⟨⟨HS.out.2.2.1.trans (below_setRow (Below.refl _ _) (by have := HS.out.2.2.1.size; have h8 := HWG.out; omega) #[.int .i64 v0e, .int .i64 v1e, .int .i64 (1 + v2e)]), (setRow_other z9 g5 g0 #[.int .i64 v0e, .int .i64 v1e, .int .i64 (1 + v2e)] HGO.out).trans HS.out.2.2.2, HOW.out⟩, HA5.out⟩⟩
      · skip
        go_wp2_with fail
        have hb := one_new z0 (.cells #[.int .i64 0, .int .i64 0, .int .i64 0] 27)
        refine pieceEnd_normal ⟨BN.later hb HN.out, ?_⟩
        have HA : Hid ((z0.alloc (.cells #[.int .i64 0, .int .i64 0, .int .i64 0] 27)).heap[z0.heap.size]? = some (.cells #[.int .i64 0, .int .i64 0, .int .i64 0] 27 (0, 0))) := Lib.hid (heap_alloc_new _ _)
        have hg5 : n0 ≤ z0.heap.size := HN.out
        replace HS : Hid ((∃ kd, DiceAt (z0.alloc (.cells #[.int .i64 0, .int .i64 0, .int .i64 0] 27)) w.heap.size D t kd) ∧ GOwn (z0.alloc (.cells #[.int .i64 0, .int .i64 0, .int .i64 0] 27)) P G v0 ∧ Below w.heap.size w (z0.alloc (.cells #[.int .i64 0, .int .i64 0, .int .i64 0] 27)) ∧ (z0.alloc (.cells #[.int .i64 0, .int .i64 0, .int .i64 0] 27)).heap[g0]? = some (.cells #[.int .i64 G.sz, .slice A n c, .slice B m k] 25 (0, 0))) := Lib.hid ⟨(by obtain ⟨kd, hk⟩ := HS.out.1; exact ⟨kd, hk.later hb⟩), HS.out.2.1.later hb, HS.out.2.2.1.trans (hb.mono HS.out.2.2.1.size), (hb.block g0 (Array.getElem?_eq_some_iff.1 HS.out.2.2.2).1).trans HS.out.2.2.2⟩
        replace HN := Lib.hid (Nat.le_trans HN.out hb.size)
        clear hb
        generalize z0.alloc (.cells #[.int .i64 0, .int .i64 0, .int .i64 0] 27) = z10 at *
        generalize z0.heap.size = g5 at *
        refine flow_one (F := BN D n0) (fun _ _ _ => BN.trans) (fun _ => BN.refl _ _ _) 3 (by kernel_rfl) (by decide) ?_
        simp only [pick, List.getD_cons_zero, List.getD_cons_succ]
        go_wp2_with fail
        refine (next_g w.heap.size D t G.sz z10 HS.out.1 (by omega) (by omega)).mono ?_
        rintro e z11 ⟨v0e, rfl, hv0e0, hv0e1, hg⟩
        have HF : Hid (BN D n0 z10 z11) := Lib.hid (BN.but hg.2 HN.out)
        replace HN := Lib.hid (Nat.le_trans HN.out hg.2.size)
        replace HA : Hid (z11.heap[g5]? = some (.cells #[.int .i64 0, .int .i64 0, .int .i64 0] 27 (0, 0))) := Lib.hid ((hg.2.block g5 (Array.getElem?_eq_some_iff.1 HA.out).1 (by omega)).trans HA.out)
        replace HS : Hid ((∃ kd, DiceAt z11 w.heap.size D t kd) ∧ GOwn z11 P G v0 ∧ Below w.heap.size w z11 ∧ z11.heap[g0]? = some (.cells #[.int .i64 G.sz, .slice A n c, .slice B m k] 25 (0, 0))) := Lib.hid ⟨hg.1, HS.out.2.1.but hg.2 HDP.out, HS.out.2.2.1.trans (hg.2.below (by have := HDD.out; omega) HS.out.2.2.1.size), (hg.2.block g0 (Array.getElem?_eq_some_iff.1 HS.out.2.2.2).1 (by omega)).trans HS.out.2.2.2⟩
        clear hg
        go_wp2_with fail
        refine pieceEnd_normal ⟨HF.out, ?_⟩
        clear HF
        refine flow_one (F := BN D n0) (fun _ _ _ => BN.trans) (fun _ => BN.refl _ _ _) 7 (by kernel_rfl) (by decide) ?_
        simp only [pick, List.getD_cons_zero, List.getD_cons_succ]
        go_wp2_with fail
        refine (next_g w.heap.size D t G.sz z11 HS.out.1 (by omega) (by omega)).mono ?_
        rintro e z12 ⟨v1e, rfl, hv1e0, hv1e1, hg⟩
        have HF : Hid (BN D n0 z11 z12) := Lib.hid (BN.but hg.2 HN.out)
        replace HN := Lib.hid (Nat.le_trans HN.out hg.2.size)
        replace HA : Hid (z12.heap[g5]? = some (.cells #[.int .i64 0, .int .i64 0, .int .i64 0] 27 (0, 0))) := Lib.hid ((hg.2.block g5 (Array.getElem?_eq_some_iff.1 HA.out).1 (by omega)).trans HA.out)
        replace HS : Hid ((∃ kd, DiceAt z12 w.heap.size D t kd) ∧ GOwn z12 P G v0 ∧ Below w.heap.size w z12 ∧ z12.heap[g0]? = some (.cells #[.int .i64 G.sz, .slice A n c, .slice B m k] 25 (0, 0))) := Lib.hid ⟨hg.1, HS.out.2.1.but hg.2 HDP.out, HS.out.2.2.1.trans (hg.2.below (by have := HDD.out; omega) HS.out.2.2.1.size), (hg.2.block g0 (Array.getElem?_eq_some_iff.1 HS.out.2.2.2).1 (by omega)).trans HS.out.2.2.2⟩
        clear hg
        go_wp2_with fail
        refine pieceEnd_normal ⟨HF.out, ?_⟩
        clear HF
        refine flow_one (F := BN D n0) (fun _ _ _ => BN.trans) (fun _ => BN.refl _ _ _) 9 (by kernel_rfl) (by decide) ?_
        simp only [pick, List.getD_cons_zero, List.getD_cons_succ]
        go_wp2_with fail
        refine (next_g w.heap.size D t 3 z12 HS.out.1 (by omega) (by omega)).mono ?_
        rintro e z13 ⟨v2e, rfl, hv2e0, hv2e1, hg⟩
        have HF : Hid (BN D n0 z12 z13) := Lib.hid (BN.but hg.2 HN.out)
        replace HN := Lib.hid (Nat.le_trans HN.out hg.2.size)
        replace HA : Hid (z13.heap[g5]? = some (.cells #[.int .i64 0, .int .i64 0, .int .i64 0] 27 (0, 0))) := Lib.hid ((hg.2.block g5 (Array.getElem?_eq_some_iff.1 HA.out).1 (by omega)).trans HA.out)
        replace HS : Hid ((∃ kd, DiceAt z13 w.heap.size D t kd) ∧ GOwn z13 P G v0 ∧ Below w.heap.size w z13 ∧ z13.heap[g0]? = some (.cells #[.int .i64 G.sz, .slice A n c, .slice B m k] 25 (0, 0))) := Lib.hid ⟨hg.1, HS.out.2.1.but hg.2 HDP.out, HS.out.2.2.1.trans (hg.2.below (by have := HDD.out; omega) HS.out.2.2.1.size), (hg.2.block g0 (Array.getElem?_eq_some_iff.1 HS.out.2.2.2).1 (by omega)).trans HS.out.2.2.2⟩
        clear hg
        go_wp2_with fail
        refine pieceEnd_normal ⟨HF.out, ?_⟩
        clear HF
        refine flow_val (F := BN D n0) (fun _ => BN.refl _ _ _) (by kernel_rfl) 10 (by kernel_rfl) ?_
        simp only [pick, List.getD_cons_zero, List.getD_cons_succ]
        repeat (go_big_quiet_step (fail))
        refine wpQuiet_nil ?_
        refine flow_val (F := BN D n0) (fun _ => BN.refl _ _ _) (by kernel_rfl) 11 (by kernel_rfl) ?_
        simp only [pick, List.getD_cons_zero, List.getD_cons_succ]
        repeat (go_big_quiet_step (fail))
        refine wpQuiet_nil ?_
        refine flow_one (F := BN D n0) (fun _ _ _ => BN.trans) (fun _ => BN.refl _ _ _) 13 (by kernel_rfl) (by decide) ?_
        simp only [pick, List.getD_cons_zero, List.getD_cons_succ]
        go_wp2_with (refine wpList_store_row rfl 27 (.tmp 5) (.tmp 34) rfl g5 #[.int .i64 v0e, .int .i64 v1e, .int .i64 (1 + v2e)] rfl rfl 27 _ HA.out (Edg.info ⟨v0e, v1e, 1 + v2e⟩) rfl (by simp [Value.oneCell']) ?_)
        refine pieceEnd_normal ⟨BN.row _ _ hg5, ?_⟩
        have HA5 := Lib.hid (setRow_heap z13 g5 _ #[.int .i64 v0e, .int .i64 v1e, .int .i64 (1 + v2e)] _ _ HA.out)
        have HGO : Hid (g0 ≠ g5) := Lib.hid (by omega)
        have HOW : Hid (GHold (z13.setRow g5 #[.int .i64 v0e, .int .i64 v1e, .int .i64 (1 + v2e)]) G v0) := Lib.hid (by
          obtain ⟨e, gv, he, h1, h2⟩ := HS.out.2.1
          have hne : ∀ q, q < n0 → q ≠ g5 := fun q hq => by omega
          exact GOwn.hold ⟨e, gv, he, own_keepL h1 fun q hq => setRow_other z13 g5 q #[.int .i64 v0e, .int .i64 v1e, .int .i64 (1 + v2e)] (HOB.out e gv he q (.inl hq) hg5), own_keepL h2 fun q hq => setRow_other z13 g5 q #[.int .i64 v0e, .int .i64 v1e, .int .i64 (1 + v2e)] (HOB.out e gv he q (.inr hq) hg5)⟩)
        refine flow_done (by kernel_rfl) ?_
        go_wp2_with fail
        go_meet
        exact ⟨g5, ⟨v0e, v1e, 1 + v2e⟩, rfl, Lib.hid ⟨⟨HS.out.2.2.1.trans (below_setRow (Below.refl _ _) (by have := HS.out.2.2.1.size; have h8 := HWG.out; omega) #[.int .i64 v0e, .int .i64 v1e, .int .i64 (1 + v2e)]), (setRow_other z13 g5 g0 #[.int .i64 v0e, .int .i64 v1e, .int .i64 (1 + v2e)] HGO.out).trans HS.out.2.2.2, HOW.out⟩, HA5.out⟩⟩
    case rest =>
      obtain ⟨g5, e, rfl, HQ⟩ := hcut
      clear HO HB HC0 HD HDD HDP HDG
      have HB := Lib.hid HQ.out.1.1; have HC0 := Lib.hid HQ.out.1.2.1; have HV := Lib.hid HQ.out.1.2.2; have HE := Lib.hid HQ.out.2
      clear HQ
      have HFE := Lib.hid HGD.out.few
      have HRW : Hid ((withG G e).2 = 0 → Good11 (withG G e).1 ∧ (withG G e).1.es.length = G.es.length + 1 ∧ withoutG (withG G e).1 e.fr e.tu = (G, 0)) := Lib.hid fun h => ⟨(with_good h).2.1, with_one h, undone h⟩
      have HWC : Hid (Calls Try.prog 25 #[.agg #[.int .i64 G.sz, .slice A n c, .slice B m k], .agg e.arr] wc (GivesGE wc (withG G e))) := Lib.hid (by
        have h := H.with_ G v0 e wc HV.out HFE.out.1 HFE.out.2
        rw [HVE.out] at h
        exact h)
      generalize withG G e = RW at *
      go_wp2_with (first | (refine wpList_load_row rfl 25 (.tmp 4) rfl g0 rfl 25 #[.int .i64 G.sz, .slice A n c, .slice B m k] (0, 0) _ HC0.out Try.underlying25 rfl gr_size ?_) | (refine wpList_load_row rfl 27 (.tmp 5) rfl g5 rfl 27 e.arr (0, 0) _ HE.out Try.underlying27 rfl e.info ?_))
      refine HWC.out.mono ?_
      clear HWC
      rintro e1 w3 ⟨v6, rfl, hv6, hb⟩
      have HV6 := Lib.hid hv6
      obtain ⟨A6, n6, c6, B6, m6, k6, rfl, h61, -⟩ := hv6
      have HN6 := Lib.hid (ERow.len h61)
      clear h61
      replace HC0 := Lib.hid ((hb.block _ (Array.getElem?_eq_some_iff.1 HC0.out).1).trans HC0.out)
      replace HE := Lib.hid ((hb.block _ (Array.getElem?_eq_some_iff.1 HE.out).1).trans HE.out)
      replace HV := Lib.hid (GHold.later HV.out hb)
      replace HB := Lib.hid (HB.out.trans (hb.mono HB.out.size))
      clear hb
      go_upto_region 7 with (refine wpList_store_new rfl 25 (.tmp 6) (.tmp 39) rfl 25 _ #[.int .i64 RW.1.sz, .slice A6 n6 c6, .slice B6 m6 k6] rfl rfl gr_size rfl (by simp [Value.oneCell']) ?_)
      have hb := one_new w3 (.cells #[.int .i64 RW.1.sz, .slice A6 n6 c6, .slice B6 m6 k6] 25)
      have HC6 : Hid ((w3.alloc (.cells #[.int .i64 RW.1.sz, .slice A6 n6 c6, .slice B6 m6 k6] 25)).heap[w3.heap.size]? = some (.cells #[.int .i64 RW.1.sz, .slice A6 n6 c6, .slice B6 m6 k6] 25 (0, 0))) := Lib.hid (heap_alloc_new _ _)
      replace HC0 := Lib.hid ((hb.block _ (Array.getElem?_eq_some_iff.1 HC0.out).1).trans HC0.out)
      replace HE := Lib.hid ((hb.block _ (Array.getElem?_eq_some_iff.1 HE.out).1).trans HE.out)
      replace HV := Lib.hid (GHold.later HV.out hb)
      replace HV6 := Lib.hid (GHold.later HV6.out hb)
      replace HB := Lib.hid (HB.out.trans (hb.mono HB.out.size))
      clear hb
      generalize w3.alloc (.cells #[.int .i64 RW.1.sz, .slice A6 n6 c6, .slice B6 m6 k6] 25) = y6 at *
      generalize w3.heap.size = g6 at *
      try dsimp only [Act.put]
      go_upto_if 42 with fail
      go_cut [] (fun wx => Hid (Below w.heap.size w wx ∧ wx.heap[g0]? = some (.cells #[.int .i64 G.sz, .slice A n c, .slice B m k] 25 (0, 0)) ∧ GHold wx G v0))
      case first =>
        by_cases her : RW.2 = 0
        · have b0 : (RW.2 == 0) = true := by rw [her]; rfl
          obtain ⟨hg1, hg2, hg3⟩ := HRW.out her
          have HG1 := Lib.hid hg1; have HG2 := Lib.hid hg2
          have hx0 : y6.cell? ⟨g5, 0, none⟩ = some (.int .i64 e.fr) := (cell_of_row _ _ 0 _ _ _ HE.out).trans rfl
          have hx1 : y6.cell? ⟨g5, 1, none⟩ = some (.int .i64 e.tu) := (cell_of_row _ _ 1 _ _ _ HE.out).trans rfl
          have HWO : Hid (Calls Try.prog 26 #[.agg #[.int .i64 RW.1.sz, .slice A6 n6 c6, .slice B6 m6 k6], .int .i64 e.fr, .int .i64 e.tu] y6 (GivesGE y6 (G, 0))) := Lib.hid (hg3 ▸ H.without RW.1 _ e.fr e.tu y6 HV6.out hg1.few.1 hg1.few.2)
          clear her hg1 hg2 hg3 HRW
          go_wp2_with (refine wpList_load_row rfl 25 (.tmp 6) rfl g6 rfl 25 #[.int .i64 RW.1.sz, .slice A6 n6 c6, .slice B6 m6 k6] (0, 0) _ HC6.out Try.underlying25 rfl gr_size ?_)
          clear hx0 hx1 b0
          refine HWO.out.mono ?_
          clear HWO
          rintro e1 w4 ⟨v8, rfl, hv8, hb⟩
          have HV8 := Lib.hid hv8
          obtain ⟨A8, n8, c8, B8, m8, k8, rfl, -, -⟩ := hv8
          replace HC0 := Lib.hid ((hb.block _ (Array.getElem?_eq_some_iff.1 HC0.out).1).trans HC0.out)
          replace HC6 := Lib.hid ((hb.block _ (Array.getElem?_eq_some_iff.1 HC6.out).1).trans HC6.out)
          replace HV := Lib.hid (GHold.later HV.out hb)
          replace HV6 := Lib.hid (GHold.later HV6.out hb)
          replace HB := Lib.hid (HB.out.trans (hb.mono HB.out.size))
          clear hb
          go_upto_region 9 with (refine wpList_store_new rfl 25 (.tmp 8) (.tmp 50) rfl 25 _ #[.int .i64 G.sz, .slice A8 n8 c8, .slice B8 m8 k8] rfl rfl gr_size rfl (by simp [Value.oneCell']) ?_)
          have hb := one_new w4 (.cells #[.int .i64 G.sz, .slice A8 n8 c8, .slice B8 m8 k8] 25)
          have HC8 : Hid ((w4.alloc (.cells #[.int .i64 G.sz, .slice A8 n8 c8, .slice B8 m8 k8] 25)).heap[w4.heap.size]? = some (.cells #[.int .i64 G.sz, .slice A8 n8 c8, .slice B8 m8 k8] 25 (0, 0))) := Lib.hid (heap_alloc_new _ _)
          replace HC0 := Lib.hid ((hb.block _ (Array.getElem?_eq_some_iff.1 HC0.out).1).trans HC0.out)
          replace HC6 := Lib.hid ((hb.block _ (Array.getElem?_eq_some_iff.1 HC6.out).1).trans HC6.out)
          replace HV := Lib.hid (GHold.later HV.out hb)
          replace HV6 := Lib.hid (GHold.later HV6.out hb)
          replace HV8 := Lib.hid (GHold.later HV8.out hb)
          replace HB := Lib.hid (HB.out.trans (hb.mono HB.out.size))
          clear hb
          generalize w4.alloc (.cells #[.int .i64 G.sz, .slice A8 n8 c8, .slice B8 m8 k8] 25) = y8 at *
          generalize w4.heap.size = g8 at *
          try dsimp only [Act.put]
          go_wp2_with (first | (refine wpList_load_rowG rfl 25 (.tmp 8) rfl g8 rfl 25 #[.int .i64 G.sz, .slice A8 n8 c8, .slice B8 m8 k8] (0, 0) _ HC8.out Try.underlying25 rfl gr_size ?_) | (refine wpList_load_rowG rfl 25 (.tmp 4) rfl g0 rfl 25 #[.int .i64 G.sz, .slice A n c, .slice B m k] (0, 0) _ HC0.out Try.underlying25 rfl gr_size ?_))
          have HSM : Hid (Calls Try.prog 9 #[.agg #[.int .i64 G.sz, .slice A8 n8 c8, .slice B8 m8 k8], .agg #[.int .i64 G.sz, .slice A n c, .slice B m k]] y8 (SaysL (.bool true) y8)) := Lib.hid (by
            have h := refsame_self G _ v0 y8 HV8.out HV.out HFE.out.1 HFE.out.2
            rw [HVE.out] at h
            exact h)
          refine HSM.out.mono ?_
          clear HSM
          rintro e1 w5 ⟨rfl, hb⟩
          replace HC0 := Lib.hid ((hb.block _ (Array.getElem?_eq_some_iff.1 HC0.out).1).trans HC0.out)
          replace HC6 := Lib.hid ((hb.block _ (Array.getElem?_eq_some_iff.1 HC6.out).1).trans HC6.out)
          replace HV := Lib.hid (GHold.later HV.out hb)
          replace HV6 := Lib.hid (GHold.later HV6.out hb)
          replace HB := Lib.hid (HB.out.trans (hb.mono HB.out.size))
          clear hb
          have hx1 : w5.cell? ⟨g6, 1, none⟩ = some (.slice A6 n6 c6) := (cell_of_row _ _ 1 _ _ _ HC6.out).trans rfl
          have hx2 : w5.cell? ⟨g0, 1, none⟩ = some (.slice A n c) := (cell_of_row _ _ 1 _ _ _ HC0.out).trans rfl
          have hn6 : n6 = n + 1 := by rw [← HN6.out, HG2.out, HNL.out]
          subst hn6
          have hnb : n ≤ 500 := by rw [← HNL.out]; exact HGD.out.len
          have b7 : (((n + 1 : Nat) : Int) != (n : Int) + 1) = false := by simp
          have b8 : (((n + 1 : Nat) : Int) != 1 + (n : Int)) = false := by simp; omega
          go_wp2_with (refine wpList_load_rowG rfl 25 (.tmp 6) rfl g6 rfl 25 #[.int .i64 RW.1.sz, .slice A6 (n + 1) c6, .slice B6 m6 k6] (0, 0) _ HC6.out Try.underlying25 rfl gr_size ?_)
          clear hx1 hx2
          have HCK : Hid (Calls Try.prog 27 #[.agg #[.int .i64 RW.1.sz, .slice A6 (n + 1) c6, .slice B6 m6 k6]] w5 (SaysL (.int .i64 0) w5)) := Lib.hid (by
            have h1 := H.check RW.1 _ w5 HV6.out HG1.out.few.1 HG1.out.few.2
            have h2 : checkG RW.1 = 0 := by unfold checkG; rw [if_pos ((okG_iff _).2 HG1.out)]
            rwa [h2] at h1)
          refine HCK.out.mono ?_
          clear HCK
          rintro e1 w6 ⟨rfl, hb⟩
          replace HC0 := Lib.hid ((hb.block _ (Array.getElem?_eq_some_iff.1 HC0.out).1).trans HC0.out)
          replace HV := Lib.hid (GHold.later HV.out hb)
          replace HB := Lib.hid (HB.out.trans (hb.mono HB.out.size))
          clear hb
          go_wp2_with fail
          go_meet
          exact Lib.hid ⟨HB.out, HC0.out, HV.out⟩
        · have b0 : (RW.2 == 0) = false := by rw [beq_eq_false_iff_ne]; exact her
          clear her HRW
          go_wp2_with fail
          go_meet
          exact Lib.hid ⟨HB.out, HC0.out, HV.out⟩
      case rest =>
        clear HB HC0 HV HE HC6 HV6 HRW HN6
        have HB := Lib.hid hcut.out.1; have HC0 := Lib.hid hcut.out.2.1; have HV := Lib.hid hcut.out.2.2
        clear hcut
        have HOL : Hid (∀ k, outUp G.es k ≤ 500) := Lib.hid fun k => Nat.le_trans (outUp_le _ (fun e he => (HGD.out.keys.1 e he).1) k) HGD.out.len
        have HIL : Hid (∀ k, inUp G.es k ≤ 500) := Lib.hid fun k => Nat.le_trans (inUp_le _ (fun e he => (HGD.out.keys.2 e he).1) k) HGD.out.len
        have HOU : Hid (∀ y x, GHold y G v0 → Calls Try.prog 16 #[.agg #[.int .i64 G.sz, .slice A n c, .slice B m k], .int .i64 x] y (GivesI y (outS G.es x))) := Lib.hid fun y x h => by
          have h1 := H.out G v0 x y h HGD.out
          rw [HVE.out] at h1
          exact h1
        have HIN : Hid (∀ y x, GHold y G v0 → Calls Try.prog 18 #[.agg #[.int .i64 G.sz, .slice A n c, .slice B m k], .int .i64 x] y (GivesI y (inS G.es x))) := Lib.hid fun y x h => by
          have h1 := H.in_ G v0 x y h HGD.out
          rw [HVE.out] at h1
          exact h1
        go_wp2_with fail
        go_loopw [10, 11, 12] (fun a b i wr => ∃ j : Nat, (j : Int) ≤ G.sz ∧ a = .int .i64 (outUp G.es j : Nat) ∧ b = .int .i64 (inUp G.es j : Nat) ∧ i = .int .i64 j ∧ Hid (Below w.heap.size w wr ∧ wr.heap[g0]? = some (.cells #[.int .i64 G.sz, .slice A n c, .slice B m k] 25 (0, 0)) ∧ GHold wr G v0)) (fun _ _ i _ => (G.sz - intOf i).toNat)
        case atStart => exact ⟨0, by omega, rfl, rfl, rfl, Lib.hid ⟨HB.out, HC0.out, HV.out⟩⟩
        case round =>
          clear HB HC0 HV
          obtain ⟨j, hj, rfl, rfl, rfl, HQ⟩ := hrel
          have HB := Lib.hid HQ.out.1; have HC0 := Lib.hid HQ.out.2.1; have HV := Lib.hid HQ.out.2.2
          clear HQ
          have hx0 : wr.cell? ⟨g0, 0, none⟩ = some (.int .i64 G.sz) := (cell_of_row _ _ 0 _ _ _ HC0.out).trans rfl
          have ho1 := HOL.out j; have hi1 := HIL.out j
          by_cases hlt : (j : Int) < G.sz
          · have ho2 := HOL.out (j + 1); have hi2 := HIL.out (j + 1)
            have HOS : Hid (outUp G.es (j + 1) = outUp G.es j + (outS G.es (j : Int)).length) := Lib.hid rfl
            have HIS : Hid (inUp G.es (j + 1) = inUp G.es j + (inS G.es (j : Int)).length) := Lib.hid rfl
            generalize outUp G.es j = oa at *
            generalize inUp G.es j = ia at *
            rw [HOS.out] at ho2
            rw [HIS.out] at hi2
            go_wp2_with (refine wpList_load_row rfl 25 (.tmp 4) rfl g0 rfl 25 #[.int .i64 G.sz, .slice A n c, .slice B m k] (0, 0) _ HC0.out Try.underlying25 rfl gr_size ?_)
            clear hx0
            refine (HOU.out wr j HV.out).mono ?_
            rintro e1 w7 ⟨A3, n3, c3, rfl, hr, hb⟩
            have HR := Lib.hid hr
            have hn3 : (outS G.es (j : Int)).length = n3 := hr.len
            rw [hn3] at ho2 HOS
            clear hr
            replace HC0 := Lib.hid ((hb.block _ (Array.getElem?_eq_some_iff.1 HC0.out).1).trans HC0.out)
            replace HV := Lib.hid (GHold.later HV.out hb)
            replace HB := Lib.hid (HB.out.trans (hb.mono HB.out.size))
            clear hb
            go_wp2_with (refine wpList_load_row rfl 25 (.tmp 4) rfl g0 rfl 25 #[.int .i64 G.sz, .slice A n c, .slice B m k] (0, 0) _ HC0.out Try.underlying25 rfl gr_size ?_)
            refine (HIN.out w7 j HV.out).mono ?_
            rintro e1 w8 ⟨A4, n4, c4, rfl, hr, hb⟩
            have hn4 : (inS G.es (j : Int)).length = n4 := hr.len
            rw [hn4] at hi2 HIS
            replace HR := Lib.hid (HR.out.later hb)
            clear hr hn4
            replace HC0 := Lib.hid ((hb.block _ (Array.getElem?_eq_some_iff.1 HC0.out).1).trans HC0.out)
            replace HV := Lib.hid (GHold.later HV.out hb)
            replace HB := Lib.hid (HB.out.trans (hb.mono HB.out.size))
            clear hb
            go_wp2_with fail
            go_loopw [14] (fun i wr => ∃ q : Nat, q ≤ n3 ∧ i = .int .i64 q ∧ Hid ((Below w.heap.size w wr ∧ wr.heap[g0]? = some (.cells #[.int .i64 G.sz, .slice A n c, .slice B m k] 25 (0, 0)) ∧ GHold wr G v0) ∧ IRow wr A3 n3 c3 (outS G.es (j : Int)))) (fun i _ => n3 - (intOf i).toNat)
            case atStart => exact ⟨0, Nat.zero_le _, rfl, Lib.hid ⟨⟨HB.out, HC0.out, HV.out⟩, HR.out⟩⟩
            case round =>
              clear HB HC0 HV HR
              obtain ⟨q, hq, rfl, HQ⟩ := hrel
              have HB := Lib.hid HQ.out.1.1; have HC0 := Lib.hid HQ.out.1.2.1; have HV := Lib.hid HQ.out.1.2.2; have HR := Lib.hid HQ.out.2
              clear HQ
              by_cases hql : q < n3
              · have hql2 : (q : Int) < (n3 : Int) := by omega
                obtain ⟨b, off, hA, -⟩ := IRow.cell HR.out q hql
                subst hA
                have HHB : Hid (hasI (inS G.es ((outS G.es (j : Int)).getD q 0)) j = true) := Lib.hid (out_in (by rw [hn3]; exact hql))
                go_upto_region 20 with fail
                refine wp_region_grow (by kernel_rfl) Later Later.refl (fun _ _ _ => Later.trans) [8] [([0, 1, 2, 3, 4, 6], 5), ([], 7)] (by kernel_rfl) (by kernel_rfl) (by kernel_rfl) ?_
                simp only [List.map_cons, List.map_nil, pick, List.getD_cons_zero, List.getD_cons_succ]
                have hb : Below wr.heap.size wr wr.drew := (Below.refl _ _).drew
                replace HR := Lib.hid (HR.out.later hb)
                replace HC0 := Lib.hid ((hb.block _ (Array.getElem?_eq_some_iff.1 HC0.out).1).trans HC0.out)
                replace HV := Lib.hid (GHold.later HV.out hb)
                replace HB := Lib.hid (HB.out.trans (hb.mono HB.out.size))
                clear hb
                generalize wr.drew = z0 at *
                have hel : ∀ x, (fut Later z0 x).cell? ⟨b, off + q, none⟩ = some (.int .i64 ((outS G.es (j : Int)).getD q 0)) := fun x => irow_fut HR.out q hql x
                have hl0 : ∀ x, (loadVar 25 ⟨g0, 0, none⟩).run Try.prog (fut Later z0 x) = .ok (.agg #[.int .i64 G.sz, .slice A n c, .slice B m k]) (fut Later z0 x) := fun x => run_loadVar_row _ g0 25 25 #[.int .i64 G.sz, .slice A n c, .slice B m k] (0, 0) _ (((fut_ok Later.refl z0 x).block _ (Array.getElem?_eq_some_iff.1 HC0.out).1).trans HC0.out) Try.underlying25 rfl gr_size
                generalize (outS G.es (j : Int)).getD q 0 = xv at *
                refine wpGrow_cons ?_
                repeat (first | (refine wpQuiet_load rfl 25 (.tmp 4) rfl ⟨g0, 0, none⟩ rfl (.agg #[.int .i64 G.sz, .slice A n c, .slice B m k]) (fun w' h => by obtain ⟨x, rfl⟩ := h; exact hl0 x) ?_; simp only [Act.put, List.setIfInBounds_toArray, List.set_cons_succ, List.set_cons_zero]) | go_big_quiet_step (fail))
                refine wpQuiet_nil ?_
                clear hel hl0
                go_wp2_with fail
                refine (HIN.out z0 xv HV.out).mono ?_
                rintro e1 z1 ⟨A5, n5, c5, rfl, hr, hb⟩
                have HF : Hid (Later z0 z1) := Lib.hid hb
                have HHAS : Hid (Calls Try.prog 28 #[.slice A5 n5 c5, .int .i64 (j : Int)] z1 (SaysL (.bool true) z1)) := Lib.hid (by
                  have hl5 : n5 ≤ 100000 := by
                    rw [← hr.len]
                    have h0 := inUp_cons
                    have : (inS G.es xv).length ≤ G.es.length := by
                      have h := inS_len G.es xv G.es.length (Nat.le_refl _)
                      rwa [List.take_length] at h
                    have := HGD.out.len
                    omega
                  have h1 := has_any11 A5 n5 c5 (inS G.es xv) j z1 hr hl5
                  rwa [HHB.out] at h1)
                replace HR := Lib.hid (HR.out.later hb)
                clear hr
                replace HC0 := Lib.hid ((hb.block _ (Array.getElem?_eq_some_iff.1 HC0.out).1).trans HC0.out)
                replace HV := Lib.hid (GHold.later HV.out hb)
                replace HB := Lib.hid (HB.out.trans (hb.mono HB.out.size))
                clear hb
                go_wp2_with fail
                refine pieceEnd_normal ⟨HF.out, ?_⟩
                clear HF
                refine wpGrow_cons ?_
                refine wpQuiet_nil ?_
                go_wp2_with fail
                refine HHAS.out.mono ?_
                rintro e1 z2 ⟨rfl, hb⟩
                have HF : Hid (Later z1 z2) := Lib.hid hb
                replace HR := Lib.hid (HR.out.later hb)
                clear HHAS
                replace HC0 := Lib.hid ((hb.block _ (Array.getElem?_eq_some_iff.1 HC0.out).1).trans HC0.out)
                replace HV := Lib.hid (GHold.later HV.out hb)
                replace HB := Lib.hid (HB.out.trans (hb.mono HB.out.size))
                clear hb
                go_wp2_with fail
                refine pieceEnd_normal ⟨HF.out, ?_⟩
                clear HF
                refine wpGrow_nil ?_
                repeat (go_big_quiet_step (fail))
                refine wpQuiet_nil ?_
                go_wp2_with fail
                exact ⟨⟨q + 1, by omega, by go_num, Lib.hid ⟨⟨HB.out, HC0.out, HV.out⟩, HR.out⟩⟩, by simp [intOf]; omega⟩
              · have hql2 : ¬ (q : Int) < (n3 : Int) := by omega
                go_wp2_with fail
                exact ⟨⟨j + 1, by omega, by rw [HOS.out]; go_num, by rw [HIS.out]; go_num, by go_num, Lib.hid ⟨HB.out, HC0.out, HV.out⟩⟩, by simp [intOf]; omega⟩
          · have hjs : (j : Int) = G.sz := by omega
            have HO1 : Hid (outUp G.es j = n) := Lib.hid (by rw [← HNL.out]; exact outUp_all j _ (by rw [hjs]; exact HGD.out.keys.1))
            have HI1 : Hid (inUp G.es j = n) := Lib.hid (by rw [← HNL.out]; exact inUp_all j _ (by rw [hjs]; exact HGD.out.keys.2))
            have b3 : ((outUp G.es j : Int) == (n : Int)) = true := by rw [HO1.out]; simp
            have b4 : ((inUp G.es j : Int) == (n : Int)) = true := by rw [HI1.out]; simp
            clear hjs HO1 HI1
            go_wp2_with fail
            clear hx0
            refine (HAW.out wr).mono ?_
            rintro e1 wa ⟨rfl, hb⟩
            replace HC0 := Lib.hid ((hb.block _ (Array.getElem?_eq_some_iff.1 HC0.out).1).trans HC0.out)
            replace HV := Lib.hid (GHold.later HV.out hb)
            replace HB := Lib.hid (HB.out.trans (hb.mono HB.out.size))
            clear hb
            have hx1 : wa.cell? ⟨g0, 1, none⟩ = some (.slice A n c) := (cell_of_row _ _ 1 _ _ _ HC0.out).trans rfl
            go_wp2_with fail
            go_ret
            exact ⟨rfl, HB.out⟩
  · have gd : decide (tn ≤ 400) = false := decide_eq_false hn
    go_wp2_with fail
    clear gd
    refine (HAW.out w).mono ?_
    rintro e w1 ⟨rfl, hb⟩
    have HB := Lib.hid hb; clear hb
    go_wp2_with fail
    go_ret
    exact ⟨rfl, HB.out⟩
end Go.Proofs.Ytnmpbjgccbnomaa
/-
  PROVED: for every input the law GraphUndone returns true and leaves its arguments as they were. Conditions: none but the row's own.
-/
namespace Go.Proofs.Ytnmpbjgccbnomaa.graphUndone
open Go.ChangeShapes Go.WideShapes Go.ChangeAt Go.RowKit
theorem own : ownKnob Try.prog.godebug = none := by kernel_rfl
theorem laidOut : laidOutB Try.prog = true := by kernel_rfl
theorem cellsI : Try.prog.cellsOf 3 = 1 := by kernel_rfl
set_option maxRecDepth 100000 in
theorem lifted (H11 : GraphC) (os : Os) (started : os.Started) (H : Type) (enc : TypeId × Value → H) :
    ReturnsInHanded {} Try.checked os 5 .any (Rows.graphUndoneSpec.pre6 enc Try.prog Try.f5 Rows.graphUndoneRow.domain false) (Rows.graphUndoneSpec.post enc Try.prog Try.f5 false true false false) := by
  refine returnsInHanded_of_change (C := Try.checked) own started (by kernel_rfl) Try.func5
    (ChangeSpec.witness6 (enc := enc) (C := Try.checked) false ⟨#[], #[.slice none 0 0], []⟩ 8 (by kernel_rfl) (by kernel_rfl) (by kernel_rfl) (by kernel_rfl)) ?_
  intro W base args ds gs before hval hW _ _
  have hW' := hW
  obtain ⟨p, q, hA, hV, rfl, _, _⟩ := hW
  rw [Try.params5] at hA hval
  obtain ⟨v0, d0, rfl, rfl, h0⟩ := trodAll_one hA
  obtain ⟨rfl, rfl⟩ := trodVars_none hV
  obtain ⟨A, n, c, l, rfl, hr, _⟩ := open_i64s Try.underlying23 Try.underlying3 cellsI (hval 0 23 v0 rfl rfl) h0
  refine (gundone_any H11 A n c l W hr).mono fun e W' ⟨he, hb⟩ => ?_
  subst he
  exact law_post laidOut (by kernel_rfl) Try.underlying4 (by kernel_rfl) rfl hW' rfl hb
theorem over (H11 : GraphC) : Rows.GraphUndoneSaid :=
  OpenClaim.holds_of_wide 5 Try.f5 rfl rfl rfl rfl rfl rfl rfl ⟨rfl, rfl, rfl, rfl, rfl⟩ rfl rfl rfl rfl rfl (by kernel_rfl) Try.func5 (by kernel_rfl)
    (of_decide_eq_true (by kernel_rfl)) (by unfold Func.isWrapper; first | (rw [if_pos (by decide +kernel)]; kernel_rfl) | (rw [if_neg (by decide +kernel)]; exact ⟨rfl, rfl⟩))
    (fun os started H enc _ => lifted H11 os started H enc)
end Go.Proofs.Ytnmpbjgccbnomaa.graphUndone
