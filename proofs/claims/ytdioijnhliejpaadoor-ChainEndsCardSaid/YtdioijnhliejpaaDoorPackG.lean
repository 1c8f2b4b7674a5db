import Derived.Test.YtdioijnhliejpaaDoorPackE
import Derived.Test.YtdioijnhliejpaaDoorPackF
import Derived.Test.YtdioijnhliejpaaDoorPackC
import Derived.Test.YtdioijnhliejpaaDoorBehind
import Derived.Test.YtdioijnhliejpaaDoorStms
/- The four statements of the sanity check of the layer chain. No program. -/
namespace Go.Proofs.YtdioijnhliejpaaDoor
/-- What the sanity check rests on. -/
structure Sane (a b c x : Stm) : Prop where
  n1 : nextR (3 : Nat) [] (draft 0 10 0) = (a, 0)
  n2 : nextR (3 : Nat) [a] (draft 4 10 0) = (b, 0)
  n3 : nextR (3 : Nat) [a, b] (draft 5 10 0) = (c, 0)
  n4 : nextR (3 : Nat) [a, b] (draft 5 11 0) = (x, 0)
  w1 : Whole' (3 : Nat) [a]
  w2 : Whole' (3 : Nat) [a, b]
  good : Good (3 : Nat) [x, b, a, c]
  two : ∀ n : Nat, ([x, b, a, c].filter fun s => decide (s.number = (n : Int))).length ≤ 2
  count : countL [x, b, a, c] 200 [] 0 = [a, b]
  fork : withNum [x, b, a, c] 2 = [x, c]
  fork2 : ∀ j, j < 2 → (withNum [x, b, a, c] j).length ≤ 1
  num : x.number = 2 ∧ c.number = 2 ∧ a.number = 0 ∧ b.number = 1
  way : Way [x, b, a, c] [c, b, a] c.dig
  follows : behindB a b = true ∧ b.prev = digS a
  small : Small a ∧ a.list = [] ∧ a.pins = []
theorem sane : ∃ a b c x, Sane a b c x := by
  have hc := F.check_true
  unfold F.checkN at hc
  simp only [F.forceS_eq, Bool.and_eq_true] at hc
  obtain ⟨h1, h2, h3⟩ := hc
  obtain ⟨a, ha⟩ : ∃ a, a = bareS 3 0 ⟨#[]⟩ 0 10 0 := ⟨_, rfl⟩
  obtain ⟨b, hb⟩ : ∃ b, b = bareS 3 1 a.dig 4 10 0 := ⟨_, rfl⟩
  obtain ⟨c, hcc⟩ : ∃ c, c = bareS 3 2 b.dig 5 10 0 := ⟨_, rfl⟩
  obtain ⟨x, hx⟩ : ∃ x, x = bareS 3 2 b.dig 5 11 0 := ⟨_, rfl⟩
  have da : Digit a.dig (F.firstN 3 0 10 0) := by rw [ha]; exact digit_first 3 0 10 0
  have db := digit_later da 3 1 4 10 0
  rw [← hb] at db
  have dc := digit_later db 3 2 5 10 0
  rw [← hcc] at dc
  have dx := digit_later db 3 2 5 11 0
  rw [← hx] at dx
  have ba := db.ne da (F.notIn_ne h1 _ (by simp))
  have cb := dc.ne db (F.notIn_ne h2 _ (by simp))
  have ca := dc.ne da (F.notIn_ne h2 _ (by simp))
  have xc := dx.ne dc (F.notIn_ne h3 _ (by simp))
  have xb := dx.ne db (F.notIn_ne h3 _ (by simp))
  have xa := dx.ne da (F.notIn_ne h3 _ (by simp))
  have fa : Fit (3 : Nat) a := by rw [ha]; exact mk_fit 3 0 ⟨#[]⟩ 0 10 0 (by omega) (by omega) rfl (by omega) (.inr (by omega)) (by omega) (by omega)
  have fb : Fit (3 : Nat) b := by rw [hb]; exact mk_fit 3 1 a.dig 4 10 0 (by omega) (by omega) (by rw [da.size]; rfl) (by omega) (.inr (by omega)) (by omega) (by omega)
  have fc : Fit (3 : Nat) c := by rw [hcc]; exact mk_fit 3 2 b.dig 5 10 0 (by omega) (by omega) (by rw [db.size]; rfl) (by omega) (.inr (by omega)) (by omega) (by omega)
  have fx : Fit (3 : Nat) x := by rw [hx]; exact mk_fit 3 2 b.dig 5 11 0 (by omega) (by omega) (by rw [db.size]; rfl) (by omega) (.inr (by omega)) (by omega) (by omega)
  have na : a.number = 0 := by rw [ha]; rfl
  have nb : b.number = 1 := by rw [hb]; rfl
  have nc : c.number = 2 := by rw [hcc]; rfl
  have nx : x.number = 2 := by rw [hx]; rfl
  have pb : b.prev = a.dig := by rw [hb]; rfl
  have pc : c.prev = b.dig := by rw [hcc]; rfl
  have pa : a.prev = ⟨#[]⟩ := by rw [ha]; rfl
  have ta : a.time = 0 := by rw [ha]; rfl
  have tb : b.time = 4 := by rw [hb]; rfl
  have tc : c.time = 5 := by rw [hcc]; rfl
  have ka : a.kind = 10 := by rw [ha]; rfl
  have kb : b.kind = 10 := by rw [hb]; rfl
  have w0 : Whole' (3 : Nat) [] := Whole'.nil _
  have w1 : Whole' (3 : Nat) [a] := w0.snoc (l := []) fa (fun _ h => by cases h) (by rw [na]; rfl) rfl
  have la : lastS [a] = a := rfl
  have lb : lastS [a, b] = b := rfl
  have cb2 : contB [a] b = true := by
    have h := go_on w1 (by simp) (by rw [la, ka]; decide) 4 10 0 (by rw [la, ta]; decide)
    rw [la] at h
    rw [hb]
    exact h
  have w2 : Whole' (3 : Nat) [a, b] := w1.snoc (l := [a]) fb (fun y hy => by rw [List.mem_singleton.1 hy]; exact ba.symm) (by rw [nb]; rfl) cb2
  have hbe : behindB a b = true := by
    unfold behindB
    rw [fa.author, fb.author, na, nb, ta, tb]
    simp
  have hbe2 : behindB b c = true := by
    unfold behindB
    rw [fb.author, fc.author, nb, nc, tb, tc]
    simp
  have hn : ∀ j : Nat, withNum [x, b, a, c] j = (if 2 = (j : Int) then [x] else []) ++ ((if 1 = (j : Int) then [b] else []) ++ ((if 0 = (j : Int) then [a] else []) ++ (if 2 = (j : Int) then [c] else []))) := fun j => by
    have e1 : ([x, b, a, c] : List Stm) = ((([] ++ [x]) ++ [b]) ++ [a]) ++ [c] := rfl
    rw [e1, withNum_snoc, withNum_snoc, withNum_snoc, withNum_snoc, na, nb, nc, nx]
    simp [withNum]
  have h2 : ∀ j : Nat, (withNum [x, b, a, c] j).length ≤ 2 := fun j => by
    rw [hn]
    by_cases g2 : 2 = (j : Int)
    · rw [if_pos g2, if_neg (by omega), if_neg (by omega), if_pos g2]; simp
    · rw [if_neg g2, if_neg g2]
      by_cases g1 : 1 = (j : Int)
      · rw [if_pos g1, if_neg (by omega)]; simp
      · rw [if_neg g1]
        by_cases g0 : 0 = (j : Int)
        · rw [if_pos g0]; simp
        · rw [if_neg g0]; simp
  have hgood : Good (3 : Nat) [x, b, a, c] := by
    have g1 : Good (3 : Nat) [x] := (Good.nil _).snoc (l := []) fx (fun _ h => by cases h)
    have g2 : Good (3 : Nat) [x, b] := g1.snoc (l := [x]) fb (fun y hy => by rw [List.mem_singleton.1 hy]; exact xb)
    have g3 : Good (3 : Nat) [x, b, a] := g2.snoc (l := [x, b]) fa (fun y hy => by
      rcases List.mem_cons.1 hy with rfl | hy
      · exact xa
      · rw [List.mem_singleton.1 hy]; exact ba)
    exact g3.snoc (l := [x, b, a]) fc (fun y hy => by
      rcases List.mem_cons.1 hy with rfl | hy
      · exact xc
      · rcases List.mem_cons.1 hy with rfl | hy
        · exact cb.symm
        · rw [List.mem_singleton.1 hy]; exact ca.symm)
  refine ⟨a, b, c, x, ?_, ?_, ?_, ?_, w1, w2, hgood, h2, ?_, ?_, ?_, ⟨nx, nc, na, nb⟩, ?_, ⟨hbe, by rw [pb, ha]; rfl⟩, fa.bare.2.2.1, fa.bare.1, fa.bare.2.1⟩
  · have h := next_first 3 0 10 0 (by rw [← ha]; exact fa.check)
    rw [← ha] at h
    exact h
  · have h := next_later w1 (by simp) (by rw [la, ka]; decide) 4 10 0 (by rw [la, ta]; decide) (by rw [la]; show checkV (bareS 3 1 a.dig 4 10 0) = 0; rw [← hb]; exact fb.check)
    rw [la] at h
    rw [hb]
    exact h
  · have h := next_later w2 (by simp) (by rw [lb, kb]; decide) 5 10 0 (by rw [lb, tb]; decide) (by rw [lb]; show checkV (bareS 3 2 b.dig 5 10 0) = 0; rw [← hcc]; exact fc.check)
    rw [lb] at h
    rw [hcc]
    exact h
  · have h := next_later w2 (by simp) (by rw [lb, kb]; decide) 5 11 0 (by rw [lb, tb]; decide) (by rw [lb]; show checkV (bareS 3 2 b.dig 5 11 0) = 0; rw [← hx]; exact fx.check)
    rw [lb] at h
    rw [hx]
    exact h
  · refine countL_walk _ [a, b] (fun i hi => ?_) (by simp) ?_
    · match i, hi with
      | 0, _ => exact ⟨by rw [hn]; rfl, rfl⟩
      | 1, _ => exact ⟨by rw [hn]; rfl, cb2⟩
    · unfold contNow
      rw [show withNum [x, b, a, c] ([a, b] : List Stm).length = [x, c] by rw [hn]; rfl]
      rfl
  · rw [hn]; rfl
  · intro j hj
    have g2 : ¬ 2 = (j : Int) := by omega
    rw [hn, if_neg g2, if_neg g2]
    by_cases g1 : 1 = (j : Int)
    · rw [if_pos g1, if_neg (by omega)]; simp
    · rw [if_neg g1]
      by_cases g0 : 0 = (j : Int)
      · rw [if_pos g0]; simp
      · rw [if_neg g0]; simp
  · refine ⟨by simp, rfl, fun y hy => (by cases hy; exact hbe2), by simp, pc.symm, fun y hy => (by cases hy; exact hbe), by simp, pb.symm, fun y hy => (by cases hy), ?_⟩
    intro p hp e
    have hs : p.1.size = 32 := by
      obtain ⟨q, hq, rfl⟩ := List.mem_map.1 hp
      show q.dig.size = 32
      rcases List.mem_cons.1 hq with rfl | hq
      · exact dx.size
      · rcases List.mem_cons.1 hq with rfl | hq
        · exact db.size
        · rcases List.mem_cons.1 hq with rfl | hq
          · exact da.size
          · rw [List.mem_singleton.1 hq]; exact dc.size
    rw [e, pa] at hs
    cases hs
end Go.Proofs.YtdioijnhliejpaaDoor
/- Statements in blocks of their own: stored and loaded whole. -/
namespace Go.Proofs.YtdioijnhliejpaaDoor
open Go.RowKit
theorem modify_last {α : Type} (l : Array α) (o : α) (f : α → α) : (l.push o).modify l.size f = l.push (f o) := by
  apply Array.ext
  · simp
  · intro i h1 h2
    rw [Array.getElem_modify]
    by_cases h : l.size = i
    · subst h; simp
    · rw [if_neg h, Array.getElem_push_lt (by simp at h2; omega), Array.getElem_push_lt (by simp at h2; omega)]
theorem setRow_alloc (w : World) (old cells : Array Value) (t : TypeId) : (w.alloc (.cells old t)).setRow w.heap.size cells = w.alloc (.cells cells t) := by
  unfold World.setRow World.alloc
  rw [modify_last]
theorem wpList_store_new {P : Program} {ops : Array Oper} {rest : List Oper} {o : Oper} {a : Act} {w : World} {Q : Exit → Act → World → Prop} (hgd : o.guard = none) (ty : TypeId) (x y : Operand) (ho : o.op = .store ty x y)
    (t : TypeId) (old cells : Array Value) (hx : a.eval x = .pointer (some ⟨w.heap.size, 0, none⟩)) (hy : a.eval y = .agg cells) (hi : (P.info? ty).map (·.size) = some cells.size)
    (hold : old.size = cells.size) (h1 : cells.all (·.oneCell') = true) (h : wpList P ops Q rest (a.put o.dst undef) (w.alloc (.cells cells t))) : wpList P ops Q (o :: rest) a (w.alloc (.cells old t)) := by
  refine wpList_store_row hgd ty x y ho w.heap.size cells hx hy t old (heap_alloc_new _ _) hi hold h1 ?_
  rw [setRow_alloc]
  exact h
/-- A statement in a block of its own. -/
def BoxS (y : World) (B : Nat) (s : Stm) : Prop := y.heap[B]? = some (.cells #[.int .i64 s.author, .int .i64 s.number, .string s.prev, .int .i64 s.time, .int .i64 s.kind, .int .i64 s.a, .int .i64 s.b, .int .i64 s.c, .slice none 0 0, .slice none 0 0, .string s.body, .int .i64 s.key, .string s.dig] 33 (0, 0))
theorem BoxS.later {y z : World} {B : Nat} {s : Stm} (h : BoxS y B s) (hb : Below y.heap.size y z) : BoxS z B s := (hb.block _ (Array.getElem?_eq_some_iff.1 h).1).trans h
theorem BoxS.new (y : World) (s : Stm) : BoxS (y.alloc (.cells #[.int .i64 s.author, .int .i64 s.number, .string s.prev, .int .i64 s.time, .int .i64 s.kind, .int .i64 s.a, .int .i64 s.b, .int .i64 s.c, .slice none 0 0, .slice none 0 0, .string s.body, .int .i64 s.key, .string s.dig] 33)) y.heap.size s := heap_alloc_new _ _
theorem one_row (y : World) (a : Stm) : SRow (y.alloc (.cells #[.int .i64 a.author, .int .i64 a.number, .string a.prev, .int .i64 a.time, .int .i64 a.kind, .int .i64 a.a, .int .i64 a.b, .int .i64 a.c, .slice none 0 0, .slice none 0 0, .string a.body, .int .i64 a.key, .string a.dig] 33)) (some ⟨y.heap.size, 0, none⟩) 1 1 [a] := Row.of_block (heap_alloc_new _ _) rfl
end Go.Proofs.YtdioijnhliejpaaDoor
/- The walk of chain.Fork where there is a fork. -/
namespace Go.Proofs.YtdioijnhliejpaaDoor
open Go.RowKit
theorem results_fork {tmps : Array Value} {w : World} {s : Nat} {cs : Array Value} {v : Value} (h2 : tmps.getD 4 undef = .pointer (some ⟨s, 0, none⟩)) (h3 : tmps.getD 5 undef = v)
    (hs : w.heap[s]? = some (.cells cs 41 (0, 0))) (hz : cs.size = 26) :
    (results Tryd.f12 tmps).run Tryd.prog w = .ok (.tuple #[.agg cs, v]) w := by
  have hr : Tryd.f12.results = #[.cell 4 41, .tmp 5] := rfl
  have h2' : tmps[4]?.getD undef = .pointer (some ⟨s, 0, none⟩) := by simpa using h2
  have h3' : tmps[5]?.getD undef = v := by simpa using h3
  have hl := run_loadVar_row (P := Tryd.prog) w s 41 41 cs (0, 0) _ hs Tryd.underlying41 rfl (by rw [hz]; kernel_rfl)
  unfold results
  rw [hr]
  simp [h2', h3', asAddr, hl]
def zF : Array Value := #[.int .i64 0, .int .i64 0, .string ⟨#[]⟩, .int .i64 0, .int .i64 0, .int .i64 0, .int .i64 0, .int .i64 0, .slice none 0 0, .slice none 0 0, .string ⟨#[]⟩, .int .i64 0, .string ⟨#[]⟩, .int .i64 0, .int .i64 0, .string ⟨#[]⟩, .int .i64 0, .int .i64 0, .int .i64 0, .int .i64 0, .int .i64 0, .slice none 0 0, .slice none 0 0, .string ⟨#[]⟩, .int .i64 0, .string ⟨#[]⟩]
theorem But.of_row (D : Nat) (w : World) (cs : Array Value) : But D w (w.setRow D cs) := ⟨rfl, rfl, rfl, (below_setRow (Below.refl D w) (Nat.le_refl _) cs).size, fun _ _ hne => setRow_other _ _ _ _ hne⟩
/-- Two statements as a fork. -/
def forkC (s t : Stm) : Array Value := #[.int .i64 s.author, .int .i64 s.number, .string s.prev, .int .i64 s.time, .int .i64 s.kind, .int .i64 s.a, .int .i64 s.b, .int .i64 s.c, .slice none 0 0, .slice none 0 0, .string s.body, .int .i64 s.key, .string s.dig, .int .i64 t.author, .int .i64 t.number, .string t.prev, .int .i64 t.time, .int .i64 t.kind, .int .i64 t.a, .int .i64 t.b, .int .i64 t.c, .slice none 0 0, .slice none 0 0, .string t.body, .int .i64 t.key, .string t.dig]
theorem twoOf {α : Type} {z : List α} (h1 : z.length = 2) : ∃ a b, z = [a, b] := by
  rcases z with _ | ⟨a, _ | ⟨b, _ | ⟨c, r⟩⟩⟩
  · simp at h1
  · simp at h1
  · exact ⟨a, b, rfl⟩
  · simp at h1
set_option maxRecDepth 100000 in
set_option maxHeartbeats 4000000 in
theorem fork_any (au : Int) (A : Option Addr) (n c : Nat) (l : List Stm) (w : World) (hl : SRow w A n c l) (hg : Good au l) (hn : n ≤ 1000) (hr : Rounds w) (h2 : ∀ n : Nat, (l.filter fun s => decide (s.number = (n : Int))).length ≤ 2)
    (i0 : Nat) (hi0 : i0 < 200) (h0 : (withNum l i0).length = 2) (hlo : ∀ j, j < i0 → (withNum l j).length ≤ 1) :
    Calls Tryd.prog 12 #[.int .i64 au, .slice A n c] w fun e w' => ∃ s t, s ∈ withNum l i0 ∧ t ∈ withNum l i0 ∧ e = .returned (.tuple #[.agg (forkC s t), .bool true]) ∧ Below w.heap.size w w' := by
  obtain ⟨W0, hW⟩ : ∃ W, W = w.alloc (.cells zF 41) := ⟨_, rfl⟩
  have HB0 : Hid (Below w.heap.size w W0) := Lib.hid (by rw [hW]; exact one_new w _)
  have HX0 : Hid (W0.heap[w.heap.size]? = some (.cells zF 41 (0, 0))) := Lib.hid (by rw [hW]; exact heap_alloc_new _ _)
  have HZ0 : Hid (W0.heap.size = w.heap.size + 1) := Lib.hid (by rw [hW]; simp)
  have HFI := Lib.hid (find_any au A n c l W0 (hl.later HB0.out) hg hn (hr.later HB0.out))
  have HLN := Lib.hid hl.len; have HG := Lib.hid hg; have H2 := Lib.hid h2; have H0 := Lib.hid h0; have HLO := Lib.hid hlo
  clear hl hg hr h2 h0 hlo
  go_enter Tryd.func12, Tryd.ntmps12
  go_wp2_with fail
  unfold zF at hW
  first | rw [← hW] | (trace_state; fail)
  clear hW
  refine HFI.out.mono ?_
  rintro e w1 ⟨rfl, hm, hb⟩
  have HM := Lib.hid hm; have HB := Lib.hid hb
  clear hm hb HFI
  go_wp2_with fail
  refine (byNumber_any W0.heap.size l w1 HM.out (by rw [HLN.out]; exact hn) H2.out fun s hs => (HG.out.bare s hs).2.2.2).mono ?_
  rintro e w2 ⟨v, f, he, hb2, hrows⟩
  obtain ⟨cs, hcs⟩ : ∃ cs, cs = ((List.range 200).map v).toArray := ⟨_, rfl⟩
  rw [← hcs] at he
  subst he
  have HCS : Hid (∀ i, i < 200 → cs[i]? = some (v i)) := Lib.hid fun i hi => by rw [hcs]; exact slots_cell v i hi
  clear hcs
  have HR := Lib.hid hrows; have HB2 : Hid (Below W0.heap.size W0 w2) := Lib.hid (HB.out.trans (hb2.mono HB.out.size)); have HM2 := Lib.hid (HM.out.later hb2)
  have HB1 := HB
  clear hrows hb2 HM HB
  go_wp2_with fail
  go_loopw [14] (fun i wr => ∃ j : Nat, j ≤ i0 ∧ i = .int .i64 j ∧ Hid (Below w2.heap.size w2 wr)) (fun i _ => 200 - (intOf i).toNat)
  case atStart => exact ⟨0, by omega, rfl, Lib.hid (Below.refl _ _)⟩
  case round =>
    obtain ⟨j, hj, rfl, HQ⟩ := hrel
    have hlt : j < 200 := by omega
    obtain ⟨A4, k4, c4, hv4, hr4, hp4, ha4⟩ := HR.out j hlt
    have HA4 : Hid (∀ ad, A4 = some ad → w.heap.size < ad.block) := Lib.hid fun ad hA => by have h1 := ha4 ad hA; have h2 := HB1.out.size; have h3 := HZ0.out; omega
    have hidx := run_idx cs j hlt (.slice A4 k4 c4) (by rw [HCS.out j hlt, hv4])
    have HR4 := Lib.hid (hr4.later HQ.out); have HP4 := Lib.hid hp4
    have HK4 : Hid (k4 = (withNum l j).length) := Lib.hid (by
      have h1 := hr4.len
      rw [strsV, List.length_map, hp4.length_eq, List.length_map, Nat.mul_one] at h1
      exact h1.symm)
    clear hv4 hr4 hp4 ha4
    by_cases hji : j = i0
    · subst hji
      have hk2 : k4 = 2 := by rw [HK4.out, H0.out]
      subst hk2
      have hfl : (f j).length = 2 := by rw [HP4.out.length_eq, List.length_map]; exact H0.out
      obtain ⟨d1, d2, hfd⟩ := twoOf hfl
      have hm1 : d1 ∈ (withNum l j).map (·.dig) := HP4.out.subset (by rw [hfd]; simp)
      have hm2 : d2 ∈ (withNum l j).map (·.dig) := HP4.out.subset (by rw [hfd]; simp)
      obtain ⟨s, hs, hsd⟩ := List.mem_map.1 hm1
      obtain ⟨t, ht, htd⟩ := List.mem_map.1 hm2
      subst hsd htd
      obtain ⟨b4, off4, hA4, -⟩ := Row.form HR4.out (by omega)
      subst hA4
      have HC1 : Hid (∀ wd, Later wr wd → ∀ x, (fut (But w.heap.size) wd x).cell? ⟨b4, off4, none⟩ = some (.string s.dig)) := Lib.hid fun wd hd x => by
        have h3 := ((HR4.out.later hd).but (fut_ok (F := But w.heap.size) (But.refl _) wd x) (fun ad e _ => by have := HA4.out ad e; omega)).cell 0 (by omega)
        rw [hfd] at h3
        simpa [strsV] using h3
      have HC2 : Hid (∀ wd, Later wr wd → ∀ x, (fut (But w.heap.size) wd x).cell? ⟨b4, off4 + 1, none⟩ = some (.string t.dig)) := Lib.hid fun wd hd x => by
        have h3 := ((HR4.out.later hd).but (fut_ok (F := But w.heap.size) (But.refl _) wd x) (fun ad e _ => by have := HA4.out ad e; omega)).cell 1 (by omega)
        rw [hfd] at h3
        simpa [strsV] using h3
      have hsl : s ∈ l := (List.mem_filter.1 hs).1
      have htl : t ∈ l := (List.mem_filter.1 ht).1
      obtain ⟨l1, l2, hl12, hne⟩ := split_dig HG.out.nodup hsl
      obtain ⟨m1, m2, hm12, hne2⟩ := split_dig HG.out.nodup htl
      have HL1 : Hid (∀ wd, Later wr wd → ∀ x, (Instr.lookup 57 (.map (some W0.heap.size)) (.string s.dig) false).run Tryd.prog (fut (But w.heap.size) wd x) = .ok (stmV s none 0 0 none 0 0) (fut (But w.heap.size) wd x)) := Lib.hid fun wd hd x =>
        run_has (P := Tryd.prog) (by have h3 := (((HM2.out.later HQ.out).later hd).but (fut_ok (F := But w.heap.size) (But.refl _) wd x) (by have := HZ0.out; omega)); rw [hl12] at h3; exact h3) Tryd.underlying57 Tryd.underlying9 hne
      have HL2 : Hid (∀ wd, Later wr wd → ∀ x, (Instr.lookup 57 (.map (some W0.heap.size)) (.string t.dig) false).run Tryd.prog (fut (But w.heap.size) wd x) = .ok (stmV t none 0 0 none 0 0) (fut (But w.heap.size) wd x)) := Lib.hid fun wd hd x =>
        run_has (P := Tryd.prog) (by have h3 := (((HM2.out.later HQ.out).later hd).but (fut_ok (F := But w.heap.size) (But.refl _) wd x) (by have := HZ0.out; omega)); rw [hm12] at h3; exact h3) Tryd.underlying57 Tryd.underlying9 hne2
      have HST : Hid (s ∈ withNum l j ∧ t ∈ withNum l j) := Lib.hid ⟨hs, ht⟩
      clear hfl hm1 hm2 hs ht hfd hsl htl hl12 hne hm12 hne2 HK4 HP4 HLO
      go_wp2_with fail
      refine wp_region_grow (by kernel_rfl) (But w.heap.size) (But.refl w.heap.size) (fun _ _ _ => But.trans) [12] [([0, 1, 2, 3, 4, 5, 6, 7, 8, 9], 10), ([], 11)] (by kernel_rfl) (by kernel_rfl) (by kernel_rfl) ?_
      simp only [List.map_cons, List.map_nil, pick, List.getD_cons_zero, List.getD_cons_succ]
      have HXd : Hid (wr.drew.heap[w.heap.size]? = some (.cells zF 41 (0, 0))) := Lib.hid ((HQ.out.block _ (by have := HB2.out.size; have := HZ0.out; omega)).trans ((HB2.out.block _ (by have := HZ0.out; omega)).trans HX0.out))
      have HBd : Hid (Below w.heap.size w wr.drew) := Lib.hid ((HB0.out.trans ((HB2.out.trans (HQ.out.mono HB2.out.size)).mono HB0.out.size)).drew)
      have HWD : Hid (Later wr wr.drew) := Lib.hid (Later.drew wr)
      generalize wr.drew = wd at HXd HBd HWD ⊢
      have hbut : ∀ x, But w.heap.size wd (fut (But w.heap.size) wd x) := fun x => fut_ok (But.refl _) wd x
      have hf1 : ∀ x, (fut (But w.heap.size) wd x).cell? ⟨b4, off4, none⟩ = some (.string s.dig) := fun x => HC1.out wd HWD.out x
      have hf2 : ∀ x, (fut (But w.heap.size) wd x).cell? ⟨b4, off4 + 1, none⟩ = some (.string t.dig) := fun x => HC2.out wd HWD.out x
      have hf3 := fun x => HL1.out wd HWD.out x
      have hf4 := fun x => HL2.out wd HWD.out x
      refine wpGrow_cons ?_
      unfold stmV at hf3 hf4
      repeat (go_big_quiet_step (fail))
      refine wpQuiet_nil ?_
      clear hf1 hf2 hf3 hf4
      go_wp2_with fail
      refine pieceEnd_normal ⟨But.refl _ _, ?_⟩
      refine wpGrow_cons ?_
      refine wpQuiet_nil ?_
      go_wp2_with (refine wpList_store_row rfl 41 (.tmp 4) (.tmp 30) rfl w.heap.size (forkC s t) rfl rfl 41 _ HXd.out (by kernel_rfl) rfl (by simp [Value.oneCell', forkC]) ?_)
      refine pieceEnd_normal ⟨?_, ?_⟩
      · exact But.of_row _ _ _
      refine wpGrow_nil ?_
      repeat (go_big_quiet_step (fail))
      refine wpQuiet_nil ?_
      go_wp2
      refine bodyPost_ret (results_fork rfl rfl (setRow_heap _ _ _ (forkC s t) _ _ HXd.out) rfl) rfl ⟨s, t, HST.out.1, HST.out.2, rfl, below_setRow HBd.out (Nat.le_refl _) _⟩
    · have hk : k4 ≤ 1 := by rw [HK4.out]; exact HLO.out j (by omega)
      have hk2 : ¬ (1 : Int) < (k4 : Int) := by omega
      go_wp2_with fail
      exact ⟨⟨j + 1, by omega, by go_num, HQ⟩, by simp [intOf]; omega⟩
end Go.Proofs.YtdioijnhliejpaaDoor
/- The walk of chain.Follows where one follows the other. -/
namespace Go.Proofs.YtdioijnhliejpaaDoor
open Go.RowKit
set_option maxRecDepth 100000 in
set_option maxHeartbeats 2000000 in
theorem follows_any (s : Stm) (o : Stm) (w : World) (hs : Small s) (hsl : s.list = [] ∧ s.pins = []) (h2 : 0 ≤ o.number ∧ o.number ≤ 1000) (hb : behindB s o = true) (hp : o.prev = digS s) (hr : Rounds w) :
    Calls Tryd.prog 10 #[stmV s none 0 0 none 0 0, stmV o none 0 0 none 0 0] w (SaysL (.bool true) w) := by
  have HBE : Hid (∀ x, Calls Tryd.prog 22 #[stmV s none 0 0 none 0 0, stmV o none 0 0 none 0 0] x (SaysL (.bool true) x)) := Lib.hid fun x => by
    have h := isBehind_any s none 0 0 none 0 0 o none 0 0 none 0 0 x h2
    rw [hb] at h
    exact h
  have HDG : Hid (∀ x, Below w.heap.size w x → Calls Tryd.prog 23 #[stmV s none 0 0 none 0 0] x (SaysL (.string o.prev) x)) := Lib.hid fun x hx => by
    have h := digest_any s none 0 0 none 0 0 x (by rw [hsl.1]; exact Row.nilRow _ _) (by rw [hsl.2]; exact Row.nilRow _ _) hs (hr.later hx)
    rw [← hp] at h
    exact h
  clear hs hsl h2 hb hp hr
  obtain ⟨author, number, prev, time, kind, a, b, cc, list, pins, body, key, dig⟩ := s
  obtain ⟨y0, y1, y2, y3, y4, y5, y6, y7, y8, y9, y10, y11, y12⟩ := o
  unfold stmV at HBE HDG ⊢
  simp only at HDG
  go_enter Tryd.func10, Tryd.ntmps10
  go_wp2_with fail
  have HB : Hid (Below w.heap.size w ((w.alloc (.cells #[.int .i64 author, .int .i64 number, .string prev, .int .i64 time, .int .i64 kind, .int .i64 a, .int .i64 b, .int .i64 cc, .slice none 0 0, .slice none 0 0, .string body, .int .i64 key, .string dig] 33)).alloc (.cells #[.int .i64 y0, .int .i64 y1, .string y2, .int .i64 y3, .int .i64 y4, .int .i64 y5, .int .i64 y6, .int .i64 y7, .slice none 0 0, .slice none 0 0, .string y10, .int .i64 y11, .string y12] 33)).drew) := Lib.hid ((one_new w _).trans ((one_new _ _).mono (by simp))).drew
  have HX : Hid (((w.alloc (.cells #[.int .i64 author, .int .i64 number, .string prev, .int .i64 time, .int .i64 kind, .int .i64 a, .int .i64 b, .int .i64 cc, .slice none 0 0, .slice none 0 0, .string body, .int .i64 key, .string dig] 33)).alloc (.cells #[.int .i64 y0, .int .i64 y1, .string y2, .int .i64 y3, .int .i64 y4, .int .i64 y5, .int .i64 y6, .int .i64 y7, .slice none 0 0, .slice none 0 0, .string y10, .int .i64 y11, .string y12] 33)).drew.heap[w.heap.size]? = some (.cells #[.int .i64 author, .int .i64 number, .string prev, .int .i64 time, .int .i64 kind, .int .i64 a, .int .i64 b, .int .i64 cc, .slice none 0 0, .slice none 0 0, .string body, .int .i64 key, .string dig] 33 (0, 0))) := Lib.hid ((Below.heap_alloc _ _ _ (by simp)).trans (heap_alloc_new _ _))
  have HY : Hid (((w.alloc (.cells #[.int .i64 author, .int .i64 number, .string prev, .int .i64 time, .int .i64 kind, .int .i64 a, .int .i64 b, .int .i64 cc, .slice none 0 0, .slice none 0 0, .string body, .int .i64 key, .string dig] 33)).alloc (.cells #[.int .i64 y0, .int .i64 y1, .string y2, .int .i64 y3, .int .i64 y4, .int .i64 y5, .int .i64 y6, .int .i64 y7, .slice none 0 0, .slice none 0 0, .string y10, .int .i64 y11, .string y12] 33)).drew.heap[w.heap.size + 1]? = some (.cells #[.int .i64 y0, .int .i64 y1, .string y2, .int .i64 y3, .int .i64 y4, .int .i64 y5, .int .i64 y6, .int .i64 y7, .slice none 0 0, .slice none 0 0, .string y10, .int .i64 y11, .string y12] 33 (0, 0))) := Lib.hid (by
    have h := heap_alloc_new (w.alloc (.cells #[.int .i64 author, .int .i64 number, .string prev, .int .i64 time, .int .i64 kind, .int .i64 a, .int .i64 b, .int .i64 cc, .slice none 0 0, .slice none 0 0, .string body, .int .i64 key, .string dig] 33)) (.cells #[.int .i64 y0, .int .i64 y1, .string y2, .int .i64 y3, .int .i64 y4, .int .i64 y5, .int .i64 y6, .int .i64 y7, .slice none 0 0, .slice none 0 0, .string y10, .int .i64 y11, .string y12] 33)
    rw [show (w.alloc (.cells #[.int .i64 author, .int .i64 number, .string prev, .int .i64 time, .int .i64 kind, .int .i64 a, .int .i64 b, .int .i64 cc, .slice none 0 0, .slice none 0 0, .string body, .int .i64 key, .string dig] 33)).heap.size = w.heap.size + 1 by simp] at h
    exact h)
  refine wp_region_grow (by kernel_rfl) Later Later.refl (fun _ _ _ => Later.trans) [8, 9, 10] [([0, 1], 2), ([3, 4, 5, 6], 7)] (by kernel_rfl) (by kernel_rfl) (by kernel_rfl) ?_
  simp only [List.map_cons, List.map_nil, pick, List.getD_cons_zero, List.getD_cons_succ]
  generalize ((w.alloc (.cells #[.int .i64 author, .int .i64 number, .string prev, .int .i64 time, .int .i64 kind, .int .i64 a, .int .i64 b, .int .i64 cc, .slice none 0 0, .slice none 0 0, .string body, .int .i64 key, .string dig] 33)).alloc (.cells #[.int .i64 y0, .int .i64 y1, .string y2, .int .i64 y3, .int .i64 y4, .int .i64 y5, .int .i64 y6, .int .i64 y7, .slice none 0 0, .slice none 0 0, .string y10, .int .i64 y11, .string y12] 33)).drew = w1 at HB HX HY ⊢
  have hlx : w.heap.size < w1.heap.size := (Array.getElem?_eq_some_iff.1 HX.out).1
  have hly : w.heap.size + 1 < w1.heap.size := (Array.getElem?_eq_some_iff.1 HY.out).1
  obtain ⟨hf0, hf1, hf2, hf3, hf4, hf5, hf6, hf7, hf8, hf9, hf10, hf11, hf12⟩ := stm_futs (F := Later) Later.refl (s := ⟨author, number, prev, time, kind, a, b, cc, list, pins, body, key, dig⟩) (W := w1) (fun w' h => h.block _ hlx) HX.out
  obtain ⟨hg0, hg1, hg2, hg3, hg4, hg5, hg6, hg7, hg8, hg9, hg10, hg11, hg12⟩ := stm_futs (F := Later) Later.refl (s := ⟨y0, y1, y2, y3, y4, y5, y6, y7, y8, y9, y10, y11, y12⟩) (W := w1) (fun w' h => h.block _ hly) HY.out
  refine wpGrow_cons ?_
  repeat (go_big_quiet_step (fail))
  refine wpQuiet_nil ?_
  clear hf0 hf1 hf2 hf3 hf4 hf5 hf6 hf7 hf8 hf9 hf10 hf11 hf12 hg0 hg1 hg2 hg3 hg4 hg5 hg6 hg7 hg8 hg9 hg10 hg11 hg12
  go_wp2_with fail
  refine (HBE.out w1).mono ?_
  rintro e w2 ⟨rfl, hb⟩
  have HB2 := Lib.hid (HB.out.trans (hb.mono HB.out.size)); have HX2 := Lib.hid ((hb.block _ hlx).trans HX.out); have HY2 := Lib.hid ((hb.block _ hly).trans HY.out); have HF : Hid (Later w1 w2) := Lib.hid hb
  have hlx2 : w.heap.size < w2.heap.size := Nat.lt_of_lt_of_le hlx hb.size
  have hly2 : w.heap.size + 1 < w2.heap.size := Nat.lt_of_lt_of_le hly hb.size
  clear hb HB HX HY hlx hly
  go_wp2_with fail
  refine pieceEnd_normal ⟨HF.out, ?_⟩
  clear HF
  obtain ⟨hf0, hf1, hf2, hf3, hf4, hf5, hf6, hf7, hf8, hf9, hf10, hf11, hf12⟩ := stm_futs (F := Later) Later.refl (s := ⟨author, number, prev, time, kind, a, b, cc, list, pins, body, key, dig⟩) (W := w2) (fun w' h => h.block _ hlx2) HX2.out
  obtain ⟨hg0, hg1, hg2, hg3, hg4, hg5, hg6, hg7, hg8, hg9, hg10, hg11, hg12⟩ := stm_futs (F := Later) Later.refl (s := ⟨y0, y1, y2, y3, y4, y5, y6, y7, y8, y9, y10, y11, y12⟩) (W := w2) (fun w' h => h.block _ hly2) HY2.out
  refine wpGrow_cons ?_
  repeat (go_big_quiet_step (fail))
  refine wpQuiet_nil ?_
  clear hf0 hf1 hf2 hf3 hf4 hf5 hf6 hf7 hf8 hf9 hf10 hf11 hf12 hg0 hg1 hg2 hg3 hg4 hg5 hg6 hg7 hg8 hg9 hg10 hg11 hg12
  go_wp2_with fail
  refine (HDG.out w2 HB2.out).mono ?_
  rintro e w3 ⟨rfl, hb⟩
  have HB3 := Lib.hid (HB2.out.trans (hb.mono HB2.out.size)); have HF : Hid (Later w2 w3) := Lib.hid hb
  clear hb
  go_wp2_with fail
  refine pieceEnd_normal ⟨HF.out, ?_⟩
  refine wpGrow_nil ?_
  repeat (go_big_quiet_step (fail))
  refine wpQuiet_nil ?_
  go_wp2
  go_ret
  exact ⟨by simp, HB3.out⟩
end Go.Proofs.YtdioijnhliejpaaDoor
/- The walk of the sanity check of the layer chain: it answers yes. -/
namespace Go.Proofs.YtdioijnhliejpaaDoor
open Go.RowKit
theorem two_row (y : World) (a b : Stm) : SRow (y.alloc (.cells #[.int .i64 a.author, .int .i64 a.number, .string a.prev, .int .i64 a.time, .int .i64 a.kind, .int .i64 a.a, .int .i64 a.b, .int .i64 a.c, .slice none 0 0, .slice none 0 0, .string a.body, .int .i64 a.key, .string a.dig, .int .i64 b.author, .int .i64 b.number, .string b.prev, .int .i64 b.time, .int .i64 b.kind, .int .i64 b.a, .int .i64 b.b, .int .i64 b.c, .slice none 0 0, .slice none 0 0, .string b.body, .int .i64 b.key, .string b.dig] 33)) (some ⟨y.heap.size, 0, none⟩) 2 2 [a, b] := Row.of_block (heap_alloc_new _ _) rfl
theorem four_row (y : World) (x b a c : Stm) : SRow (y.alloc (.cells #[.int .i64 x.author, .int .i64 x.number, .string x.prev, .int .i64 x.time, .int .i64 x.kind, .int .i64 x.a, .int .i64 x.b, .int .i64 x.c, .slice none 0 0, .slice none 0 0, .string x.body, .int .i64 x.key, .string x.dig, .int .i64 b.author, .int .i64 b.number, .string b.prev, .int .i64 b.time, .int .i64 b.kind, .int .i64 b.a, .int .i64 b.b, .int .i64 b.c, .slice none 0 0, .slice none 0 0, .string b.body, .int .i64 b.key, .string b.dig, .int .i64 a.author, .int .i64 a.number, .string a.prev, .int .i64 a.time, .int .i64 a.kind, .int .i64 a.a, .int .i64 a.b, .int .i64 a.c, .slice none 0 0, .slice none 0 0, .string a.body, .int .i64 a.key, .string a.dig, .int .i64 c.author, .int .i64 c.number, .string c.prev, .int .i64 c.time, .int .i64 c.kind, .int .i64 c.a, .int .i64 c.b, .int .i64 c.c, .slice none 0 0, .slice none 0 0, .string c.body, .int .i64 c.key, .string c.dig] 33)) (some ⟨y.heap.size, 0, none⟩) 4 4 [x, b, a, c] := Row.of_block (heap_alloc_new _ _) rfl
set_option maxRecDepth 100000 in
set_option maxHeartbeats 4000000 in
theorem sane_any (w : World) (hr : Rounds w) : Calls Tryd.prog 6 #[] w (SaysL (.bool true) w) := by
  obtain ⟨a, b, c, x, hs⟩ := sane
  have HRR : Hid (∀ y, Below w.heap.size w y → Rounds y) := Lib.hid fun y h => hr.later h
  have HS := Lib.hid hs
  clear hr hs
  have HN1 : Hid (∀ y A cp, Below w.heap.size w y → SRow y A 0 cp [] → Calls Tryd.prog 9 #[.int .i64 3, .slice A 0 cp, .agg #[.int .i64 0, .int .i64 0, .string ⟨#[]⟩, .int .i64 0, .int .i64 10, .int .i64 0, .int .i64 0, .int .i64 0, .slice none 0 0, .slice none 0 0, .string ⟨#[]⟩, .int .i64 0, .string ⟨#[]⟩]] y (SaysL (.tuple #[.agg #[.int .i64 a.author, .int .i64 a.number, .string a.prev, .int .i64 a.time, .int .i64 a.kind, .int .i64 a.a, .int .i64 a.b, .int .i64 a.c, .slice none 0 0, .slice none 0 0, .string a.body, .int .i64 a.key, .string a.dig], .int .i64 0]) y)) := Lib.hid fun y A cp hy hrow => by
    have h := chainNext_any ((3 : Nat) : Int) A 0 cp [] (draft 0 10 0) y hrow (Whole'.nil ((3 : Nat) : Int)).good (by omega) (HRR.out y hy) (Whole'.nil ((3 : Nat) : Int)).two ((Whole'.nil ((3 : Nat) : Int)).count (by simp)) (draft_small _ _ _) ⟨rfl, rfl⟩
    rw [HS.out.n1] at h
    exact h
  have HN2 : Hid (∀ y A cp, Below w.heap.size w y → SRow y A 1 cp [a] → Calls Tryd.prog 9 #[.int .i64 3, .slice A 1 cp, .agg #[.int .i64 0, .int .i64 0, .string ⟨#[]⟩, .int .i64 4, .int .i64 10, .int .i64 0, .int .i64 0, .int .i64 0, .slice none 0 0, .slice none 0 0, .string ⟨#[]⟩, .int .i64 0, .string ⟨#[]⟩]] y (SaysL (.tuple #[.agg #[.int .i64 b.author, .int .i64 b.number, .string b.prev, .int .i64 b.time, .int .i64 b.kind, .int .i64 b.a, .int .i64 b.b, .int .i64 b.c, .slice none 0 0, .slice none 0 0, .string b.body, .int .i64 b.key, .string b.dig], .int .i64 0]) y)) := Lib.hid fun y A cp hy hrow => by
    have h := chainNext_any ((3 : Nat) : Int) A 1 cp [a] (draft 4 10 0) y hrow HS.out.w1.good (by omega) (HRR.out y hy) HS.out.w1.two (HS.out.w1.count (by simp)) (draft_small _ _ _) ⟨rfl, rfl⟩
    rw [HS.out.n2] at h
    exact h
  have HN3 : Hid (∀ y A cp, Below w.heap.size w y → SRow y A 2 cp [a, b] → Calls Tryd.prog 9 #[.int .i64 3, .slice A 2 cp, .agg #[.int .i64 0, .int .i64 0, .string ⟨#[]⟩, .int .i64 5, .int .i64 10, .int .i64 0, .int .i64 0, .int .i64 0, .slice none 0 0, .slice none 0 0, .string ⟨#[]⟩, .int .i64 0, .string ⟨#[]⟩]] y (SaysL (.tuple #[.agg #[.int .i64 c.author, .int .i64 c.number, .string c.prev, .int .i64 c.time, .int .i64 c.kind, .int .i64 c.a, .int .i64 c.b, .int .i64 c.c, .slice none 0 0, .slice none 0 0, .string c.body, .int .i64 c.key, .string c.dig], .int .i64 0]) y)) := Lib.hid fun y A cp hy hrow => by
    have h := chainNext_any ((3 : Nat) : Int) A 2 cp [a, b] (draft 5 10 0) y hrow HS.out.w2.good (by omega) (HRR.out y hy) HS.out.w2.two (HS.out.w2.count (by simp)) (draft_small _ _ _) ⟨rfl, rfl⟩
    rw [HS.out.n3] at h
    exact h
  have HN4 : Hid (∀ y A cp, Below w.heap.size w y → SRow y A 2 cp [a, b] → Calls Tryd.prog 9 #[.int .i64 3, .slice A 2 cp, .agg #[.int .i64 0, .int .i64 0, .string ⟨#[]⟩, .int .i64 5, .int .i64 11, .int .i64 0, .int .i64 0, .int .i64 0, .slice none 0 0, .slice none 0 0, .string ⟨#[]⟩, .int .i64 0, .string ⟨#[]⟩]] y (SaysL (.tuple #[.agg #[.int .i64 x.author, .int .i64 x.number, .string x.prev, .int .i64 x.time, .int .i64 x.kind, .int .i64 x.a, .int .i64 x.b, .int .i64 x.c, .slice none 0 0, .slice none 0 0, .string x.body, .int .i64 x.key, .string x.dig], .int .i64 0]) y)) := Lib.hid fun y A cp hy hrow => by
    have h := chainNext_any ((3 : Nat) : Int) A 2 cp [a, b] (draft 5 11 0) y hrow HS.out.w2.good (by omega) (HRR.out y hy) HS.out.w2.two (HS.out.w2.count (by simp)) (draft_small _ _ _) ⟨rfl, rfl⟩
    rw [HS.out.n4] at h
    exact h
  have HFK : Hid (∀ y A cp, Below w.heap.size w y → SRow y A 4 cp [x, b, a, c] → Calls Tryd.prog 12 #[.int .i64 3, .slice A 4 cp] y fun e w' => ∃ s t, s.number = 2 ∧ e = .returned (.tuple #[.agg (forkC s t), .bool true]) ∧ Below y.heap.size y w') := Lib.hid fun y A cp hy hrow => by
    have h := fork_any ((3 : Nat) : Int) A 4 cp [x, b, a, c] y hrow HS.out.good (by omega) (HRR.out y hy) HS.out.two 2 (by omega) (by rw [HS.out.fork]; rfl) HS.out.fork2
    refine Calls.mono h ?_
    rintro e w' ⟨s, t, hs, -, rfl, hb⟩
    rw [HS.out.fork] at hs
    refine ⟨s, t, ?_, rfl, hb⟩
    rcases List.mem_cons.1 hs with rfl | hs
    · exact HS.out.num.1
    · rw [List.mem_singleton.1 hs]; exact HS.out.num.2.1
  have HBR : Hid (∀ y A cp, Below w.heap.size w y → SRow y A 4 cp [x, b, a, c] → Calls Tryd.prog 11 #[.int .i64 3, .slice A 4 cp, .string c.dig] y fun e w' => ∃ A2 c2, e = .returned (.tuple #[.slice A2 3 c2, .bool true]) ∧ Below y.heap.size y w') := Lib.hid fun y A cp hy hrow => by
    have h := branch_any ((3 : Nat) : Int) A 4 cp [x, b, a, c] y hrow HS.out.good (by omega) (HRR.out y hy) c.dig c b a HS.out.way HS.out.num.2.2.1
    refine Calls.mono h ?_
    rintro e w' ⟨A2, m, c2, rfl, rfl, hb⟩
    exact ⟨A2, c2, rfl, hb⟩
  have HCO : Hid (∀ y A cp, Below w.heap.size w y → SRow y A 4 cp [x, b, a, c] → Calls Tryd.prog 14 #[.int .i64 3, .slice A 4 cp] y fun e w' => ∃ A2 c2, e = .returned (.slice A2 2 c2) ∧ Below y.heap.size y w') := Lib.hid fun y A cp hy hrow => by
    have h := counted_any ((3 : Nat) : Int) A 4 cp [x, b, a, c] y hrow HS.out.good (by omega) (HRR.out y hy) HS.out.two
    refine Calls.mono h ?_
    rintro e w' ⟨A2, m, c2, rfl, hr2, hb⟩
    have hm := hr2.len
    rw [HS.out.count] at hm
    have hm2 : m = 2 := hm.symm
    subst hm2
    exact ⟨A2, c2, rfl, hb⟩
  have HFO : Hid (∀ y, Below w.heap.size w y → Calls Tryd.prog 10 #[.agg #[.int .i64 a.author, .int .i64 a.number, .string a.prev, .int .i64 a.time, .int .i64 a.kind, .int .i64 a.a, .int .i64 a.b, .int .i64 a.c, .slice none 0 0, .slice none 0 0, .string a.body, .int .i64 a.key, .string a.dig], .agg #[.int .i64 b.author, .int .i64 b.number, .string b.prev, .int .i64 b.time, .int .i64 b.kind, .int .i64 b.a, .int .i64 b.b, .int .i64 b.c, .slice none 0 0, .slice none 0 0, .string b.body, .int .i64 b.key, .string b.dig]] y (SaysL (.bool true) y)) := Lib.hid fun y hy =>
    follows_any a b y HS.out.small.1 HS.out.small.2 (by rw [HS.out.num.2.2.2]; decide) HS.out.follows.1 HS.out.follows.2 (HRR.out y hy)
  go_enter Tryd.func6, Tryd.ntmps6
  go_wp2_with fail
  refine (HN1.out w none 0 (Below.refl _ _) (Row.nilRow _ _)).mono ?_
  rintro e w1 ⟨rfl, hb⟩
  have HB1 := Lib.hid hb
  clear hb HN1
  go_wp2_with (first | (refine wpList_store_new rfl 33 (.tmp 1) (.tmp 17) rfl 33 _ #[.int .i64 a.author, .int .i64 a.number, .string a.prev, .int .i64 a.time, .int .i64 a.kind, .int .i64 a.a, .int .i64 a.b, .int .i64 a.c, .slice none 0 0, .slice none 0 0, .string a.body, .int .i64 a.key, .string a.dig] rfl rfl (by kernel_rfl) rfl (by simp [Value.oneCell']) ?_) | (refine wpList_load_row rfl 33 (.tmp 1) rfl (w1.heap.size) rfl 33 #[.int .i64 a.author, .int .i64 a.number, .string a.prev, .int .i64 a.time, .int .i64 a.kind, .int .i64 a.a, .int .i64 a.b, .int .i64 a.c, .slice none 0 0, .slice none 0 0, .string a.body, .int .i64 a.key, .string a.dig] (0, 0) _ (BoxS.new w1 a) Tryd.underlying33 rfl (by kernel_rfl) ?_))
  have hrow := one_row (w1.alloc (.cells #[.int .i64 a.author, .int .i64 a.number, .string a.prev, .int .i64 a.time, .int .i64 a.kind, .int .i64 a.a, .int .i64 a.b, .int .i64 a.c, .slice none 0 0, .slice none 0 0, .string a.body, .int .i64 a.key, .string a.dig] 33)) a
  rw [World.size_alloc] at hrow
  have hby : Below w.heap.size w ((w1.alloc (.cells #[.int .i64 a.author, .int .i64 a.number, .string a.prev, .int .i64 a.time, .int .i64 a.kind, .int .i64 a.a, .int .i64 a.b, .int .i64 a.c, .slice none 0 0, .slice none 0 0, .string a.body, .int .i64 a.key, .string a.dig] 33)).alloc (.cells #[.int .i64 a.author, .int .i64 a.number, .string a.prev, .int .i64 a.time, .int .i64 a.kind, .int .i64 a.a, .int .i64 a.b, .int .i64 a.c, .slice none 0 0, .slice none 0 0, .string a.body, .int .i64 a.key, .string a.dig] 33)) := HB1.out.trans (((one_new w1 _).alloc (by simp) _).mono HB1.out.size)
  refine (HN2.out _ _ _ hby hrow).mono ?_
  rintro e w2 ⟨rfl, hb⟩
  have HB2 := Lib.hid (hby.trans (hb.mono hby.size))
  have Xa2 : Hid (BoxS w2 w1.heap.size a) := Lib.hid (((BoxS.new w1 a).later (one_new _ _)).later hb)
  clear hb hrow hby HN2 HB1
  generalize Value.tuple #[Value.agg #[.int .i64 a.author, .int .i64 a.number, .string a.prev, .int .i64 a.time, .int .i64 a.kind, .int .i64 a.a, .int .i64 a.b, .int .i64 a.c, .slice none 0 0, .slice none 0 0, .string a.body, .int .i64 a.key, .string a.dig], Value.int .i64 0] = z1
  try generalize Value.agg #[.int .i64 a.author, .int .i64 a.number, .string a.prev, .int .i64 a.time, .int .i64 a.kind, .int .i64 a.a, .int .i64 a.b, .int .i64 a.c, .slice none 0 0, .slice none 0 0, .string a.body, .int .i64 a.key, .string a.dig] = z2
  try generalize Value.agg #[.int .i64 0, .int .i64 0, .string ⟨#[]⟩, .int .i64 0, .int .i64 10, .int .i64 0, .int .i64 0, .int .i64 0, .slice none 0 0, .slice none 0 0, .string ⟨#[]⟩, .int .i64 0, .string ⟨#[]⟩] = z3
  try generalize Value.agg #[.int .i64 a.author, .int .i64 a.number, .string a.prev, .int .i64 a.time, .int .i64 a.kind, .int .i64 a.a, .int .i64 a.b, .int .i64 a.c, .slice none 0 0, .slice none 0 0, .string a.body, .int .i64 a.key, .string a.dig] = z4
  go_wp2_with (first | (refine wpList_store_new rfl 33 (.tmp 3) (.tmp 24) rfl 33 _ #[.int .i64 b.author, .int .i64 b.number, .string b.prev, .int .i64 b.time, .int .i64 b.kind, .int .i64 b.a, .int .i64 b.b, .int .i64 b.c, .slice none 0 0, .slice none 0 0, .string b.body, .int .i64 b.key, .string b.dig] rfl rfl (by kernel_rfl) rfl (by simp [Value.oneCell']) ?_) | (refine wpList_load_row rfl 33 (.tmp 1) rfl (w1.heap.size) rfl 33 #[.int .i64 a.author, .int .i64 a.number, .string a.prev, .int .i64 a.time, .int .i64 a.kind, .int .i64 a.a, .int .i64 a.b, .int .i64 a.c, .slice none 0 0, .slice none 0 0, .string a.body, .int .i64 a.key, .string a.dig] (0, 0) _ (Xa2.out.later (one_new w2 _)) Tryd.underlying33 rfl (by kernel_rfl) ?_) | (refine wpList_load_row rfl 33 (.tmp 3) rfl (w2.heap.size) rfl 33 #[.int .i64 b.author, .int .i64 b.number, .string b.prev, .int .i64 b.time, .int .i64 b.kind, .int .i64 b.a, .int .i64 b.b, .int .i64 b.c, .slice none 0 0, .slice none 0 0, .string b.body, .int .i64 b.key, .string b.dig] (0, 0) _ (BoxS.new w2 b) Tryd.underlying33 rfl (by kernel_rfl) ?_))
  have hrow := two_row (w2.alloc (.cells #[.int .i64 b.author, .int .i64 b.number, .string b.prev, .int .i64 b.time, .int .i64 b.kind, .int .i64 b.a, .int .i64 b.b, .int .i64 b.c, .slice none 0 0, .slice none 0 0, .string b.body, .int .i64 b.key, .string b.dig] 33)) a b
  rw [World.size_alloc] at hrow
  have hby : Below w.heap.size w ((w2.alloc (.cells #[.int .i64 b.author, .int .i64 b.number, .string b.prev, .int .i64 b.time, .int .i64 b.kind, .int .i64 b.a, .int .i64 b.b, .int .i64 b.c, .slice none 0 0, .slice none 0 0, .string b.body, .int .i64 b.key, .string b.dig] 33)).alloc (.cells #[.int .i64 a.author, .int .i64 a.number, .string a.prev, .int .i64 a.time, .int .i64 a.kind, .int .i64 a.a, .int .i64 a.b, .int .i64 a.c, .slice none 0 0, .slice none 0 0, .string a.body, .int .i64 a.key, .string a.dig, .int .i64 b.author, .int .i64 b.number, .string b.prev, .int .i64 b.time, .int .i64 b.kind, .int .i64 b.a, .int .i64 b.b, .int .i64 b.c, .slice none 0 0, .slice none 0 0, .string b.body, .int .i64 b.key, .string b.dig] 33)) := HB2.out.trans (((one_new w2 _).alloc (by simp) _).mono HB2.out.size)
  refine (HN3.out _ _ _ hby hrow).mono ?_
  rintro e w3 ⟨rfl, hb⟩
  have HB3 := Lib.hid (hby.trans (hb.mono hby.size))
  have Xa3 : Hid (BoxS w3 w1.heap.size a) := Lib.hid (((Xa2.out.later (one_new _ _)).later (one_new _ _)).later hb)
  have Xb3 : Hid (BoxS w3 w2.heap.size b) := Lib.hid (((BoxS.new w2 b).later (one_new _ _)).later hb)
  clear hb hrow hby HN3 HB2 Xa2
  generalize Value.tuple #[Value.agg #[.int .i64 b.author, .int .i64 b.number, .string b.prev, .int .i64 b.time, .int .i64 b.kind, .int .i64 b.a, .int .i64 b.b, .int .i64 b.c, .slice none 0 0, .slice none 0 0, .string b.body, .int .i64 b.key, .string b.dig], Value.int .i64 0] = z1
  try generalize Value.agg #[.int .i64 b.author, .int .i64 b.number, .string b.prev, .int .i64 b.time, .int .i64 b.kind, .int .i64 b.a, .int .i64 b.b, .int .i64 b.c, .slice none 0 0, .slice none 0 0, .string b.body, .int .i64 b.key, .string b.dig] = z2
  try generalize Value.agg #[.int .i64 0, .int .i64 0, .string ⟨#[]⟩, .int .i64 4, .int .i64 10, .int .i64 0, .int .i64 0, .int .i64 0, .slice none 0 0, .slice none 0 0, .string ⟨#[]⟩, .int .i64 0, .string ⟨#[]⟩] = z3
  try generalize Value.agg #[.int .i64 a.author, .int .i64 a.number, .string a.prev, .int .i64 a.time, .int .i64 a.kind, .int .i64 a.a, .int .i64 a.b, .int .i64 a.c, .slice none 0 0, .slice none 0 0, .string a.body, .int .i64 a.key, .string a.dig] = z4
  try generalize Value.agg #[.int .i64 b.author, .int .i64 b.number, .string b.prev, .int .i64 b.time, .int .i64 b.kind, .int .i64 b.a, .int .i64 b.b, .int .i64 b.c, .slice none 0 0, .slice none 0 0, .string b.body, .int .i64 b.key, .string b.dig] = z4
  go_wp2_with (first | (refine wpList_store_new rfl 33 (.tmp 5) (.tmp 32) rfl 33 _ #[.int .i64 c.author, .int .i64 c.number, .string c.prev, .int .i64 c.time, .int .i64 c.kind, .int .i64 c.a, .int .i64 c.b, .int .i64 c.c, .slice none 0 0, .slice none 0 0, .string c.body, .int .i64 c.key, .string c.dig] rfl rfl (by kernel_rfl) rfl (by simp [Value.oneCell']) ?_) | (refine wpList_load_row rfl 33 (.tmp 1) rfl (w1.heap.size) rfl 33 #[.int .i64 a.author, .int .i64 a.number, .string a.prev, .int .i64 a.time, .int .i64 a.kind, .int .i64 a.a, .int .i64 a.b, .int .i64 a.c, .slice none 0 0, .slice none 0 0, .string a.body, .int .i64 a.key, .string a.dig] (0, 0) _ (Xa3.out.later (one_new w3 _)) Tryd.underlying33 rfl (by kernel_rfl) ?_) | (refine wpList_load_row rfl 33 (.tmp 3) rfl (w2.heap.size) rfl 33 #[.int .i64 b.author, .int .i64 b.number, .string b.prev, .int .i64 b.time, .int .i64 b.kind, .int .i64 b.a, .int .i64 b.b, .int .i64 b.c, .slice none 0 0, .slice none 0 0, .string b.body, .int .i64 b.key, .string b.dig] (0, 0) _ (Xb3.out.later (one_new w3 _)) Tryd.underlying33 rfl (by kernel_rfl) ?_))
  have hrow := two_row (w3.alloc (.cells #[.int .i64 c.author, .int .i64 c.number, .string c.prev, .int .i64 c.time, .int .i64 c.kind, .int .i64 c.a, .int .i64 c.b, .int .i64 c.c, .slice none 0 0, .slice none 0 0, .string c.body, .int .i64 c.key, .string c.dig] 33)) a b
  rw [World.size_alloc] at hrow
  have hby : Below w.heap.size w ((w3.alloc (.cells #[.int .i64 c.author, .int .i64 c.number, .string c.prev, .int .i64 c.time, .int .i64 c.kind, .int .i64 c.a, .int .i64 c.b, .int .i64 c.c, .slice none 0 0, .slice none 0 0, .string c.body, .int .i64 c.key, .string c.dig] 33)).alloc (.cells #[.int .i64 a.author, .int .i64 a.number, .string a.prev, .int .i64 a.time, .int .i64 a.kind, .int .i64 a.a, .int .i64 a.b, .int .i64 a.c, .slice none 0 0, .slice none 0 0, .string a.body, .int .i64 a.key, .string a.dig, .int .i64 b.author, .int .i64 b.number, .string b.prev, .int .i64 b.time, .int .i64 b.kind, .int .i64 b.a, .int .i64 b.b, .int .i64 b.c, .slice none 0 0, .slice none 0 0, .string b.body, .int .i64 b.key, .string b.dig] 33)) := HB3.out.trans (((one_new w3 _).alloc (by simp) _).mono HB3.out.size)
  refine (HN4.out _ _ _ hby hrow).mono ?_
  rintro e w4 ⟨rfl, hb⟩
  have HB4 := Lib.hid (hby.trans (hb.mono hby.size))
  have Xa4 : Hid (BoxS w4 w1.heap.size a) := Lib.hid (((Xa3.out.later (one_new _ _)).later (one_new _ _)).later hb)
  have Xb4 : Hid (BoxS w4 w2.heap.size b) := Lib.hid (((Xb3.out.later (one_new _ _)).later (one_new _ _)).later hb)
  have Xc4 : Hid (BoxS w4 w3.heap.size c) := Lib.hid (((BoxS.new w3 c).later (one_new _ _)).later hb)
  clear hb hrow hby HN4 HB3 Xa3 Xb3
  generalize Value.tuple #[Value.agg #[.int .i64 c.author, .int .i64 c.number, .string c.prev, .int .i64 c.time, .int .i64 c.kind, .int .i64 c.a, .int .i64 c.b, .int .i64 c.c, .slice none 0 0, .slice none 0 0, .string c.body, .int .i64 c.key, .string c.dig], Value.int .i64 0] = z1
  try generalize Value.agg #[.int .i64 c.author, .int .i64 c.number, .string c.prev, .int .i64 c.time, .int .i64 c.kind, .int .i64 c.a, .int .i64 c.b, .int .i64 c.c, .slice none 0 0, .slice none 0 0, .string c.body, .int .i64 c.key, .string c.dig] = z2
  try generalize Value.agg #[.int .i64 0, .int .i64 0, .string ⟨#[]⟩, .int .i64 5, .int .i64 10, .int .i64 0, .int .i64 0, .int .i64 0, .slice none 0 0, .slice none 0 0, .string ⟨#[]⟩, .int .i64 0, .string ⟨#[]⟩] = z3
  try generalize Value.agg #[.int .i64 a.author, .int .i64 a.number, .string a.prev, .int .i64 a.time, .int .i64 a.kind, .int .i64 a.a, .int .i64 a.b, .int .i64 a.c, .slice none 0 0, .slice none 0 0, .string a.body, .int .i64 a.key, .string a.dig] = z4
  try generalize Value.agg #[.int .i64 b.author, .int .i64 b.number, .string b.prev, .int .i64 b.time, .int .i64 b.kind, .int .i64 b.a, .int .i64 b.b, .int .i64 b.c, .slice none 0 0, .slice none 0 0, .string b.body, .int .i64 b.key, .string b.dig] = z4
  go_wp2_with (first | (refine wpList_store_new rfl 33 (.tmp 7) (.tmp 40) rfl 33 _ #[.int .i64 x.author, .int .i64 x.number, .string x.prev, .int .i64 x.time, .int .i64 x.kind, .int .i64 x.a, .int .i64 x.b, .int .i64 x.c, .slice none 0 0, .slice none 0 0, .string x.body, .int .i64 x.key, .string x.dig] rfl rfl (by kernel_rfl) rfl (by simp [Value.oneCell']) ?_) | (refine wpList_load_row rfl 33 (.tmp 7) rfl (w4.heap.size) rfl 33 #[.int .i64 x.author, .int .i64 x.number, .string x.prev, .int .i64 x.time, .int .i64 x.kind, .int .i64 x.a, .int .i64 x.b, .int .i64 x.c, .slice none 0 0, .slice none 0 0, .string x.body, .int .i64 x.key, .string x.dig] (0, 0) _ (BoxS.new w4 x) Tryd.underlying33 rfl (by kernel_rfl) ?_) | (refine wpList_load_row rfl 33 (.tmp 3) rfl (w2.heap.size) rfl 33 #[.int .i64 b.author, .int .i64 b.number, .string b.prev, .int .i64 b.time, .int .i64 b.kind, .int .i64 b.a, .int .i64 b.b, .int .i64 b.c, .slice none 0 0, .slice none 0 0, .string b.body, .int .i64 b.key, .string b.dig] (0, 0) _ (Xb4.out.later (one_new w4 _)) Tryd.underlying33 rfl (by kernel_rfl) ?_) | (refine wpList_load_row rfl 33 (.tmp 1) rfl (w1.heap.size) rfl 33 #[.int .i64 a.author, .int .i64 a.number, .string a.prev, .int .i64 a.time, .int .i64 a.kind, .int .i64 a.a, .int .i64 a.b, .int .i64 a.c, .slice none 0 0, .slice none 0 0, .string a.body, .int .i64 a.key, .string a.dig] (0, 0) _ (Xa4.out.later (one_new w4 _)) Tryd.underlying33 rfl (by kernel_rfl) ?_) | (refine wpList_load_row rfl 33 (.tmp 5) rfl (w3.heap.size) rfl 33 #[.int .i64 c.author, .int .i64 c.number, .string c.prev, .int .i64 c.time, .int .i64 c.kind, .int .i64 c.a, .int .i64 c.b, .int .i64 c.c, .slice none 0 0, .slice none 0 0, .string c.body, .int .i64 c.key, .string c.dig] (0, 0) _ (Xc4.out.later (one_new w4 _)) Tryd.underlying33 rfl (by kernel_rfl) ?_))
  have hrow := four_row (w4.alloc (.cells #[.int .i64 x.author, .int .i64 x.number, .string x.prev, .int .i64 x.time, .int .i64 x.kind, .int .i64 x.a, .int .i64 x.b, .int .i64 x.c, .slice none 0 0, .slice none 0 0, .string x.body, .int .i64 x.key, .string x.dig] 33)) x b a c
  rw [World.size_alloc] at hrow
  have hby : Below w.heap.size w ((w4.alloc (.cells #[.int .i64 x.author, .int .i64 x.number, .string x.prev, .int .i64 x.time, .int .i64 x.kind, .int .i64 x.a, .int .i64 x.b, .int .i64 x.c, .slice none 0 0, .slice none 0 0, .string x.body, .int .i64 x.key, .string x.dig] 33)).alloc (.cells #[.int .i64 x.author, .int .i64 x.number, .string x.prev, .int .i64 x.time, .int .i64 x.kind, .int .i64 x.a, .int .i64 x.b, .int .i64 x.c, .slice none 0 0, .slice none 0 0, .string x.body, .int .i64 x.key, .string x.dig, .int .i64 b.author, .int .i64 b.number, .string b.prev, .int .i64 b.time, .int .i64 b.kind, .int .i64 b.a, .int .i64 b.b, .int .i64 b.c, .slice none 0 0, .slice none 0 0, .string b.body, .int .i64 b.key, .string b.dig, .int .i64 a.author, .int .i64 a.number, .string a.prev, .int .i64 a.time, .int .i64 a.kind, .int .i64 a.a, .int .i64 a.b, .int .i64 a.c, .slice none 0 0, .slice none 0 0, .string a.body, .int .i64 a.key, .string a.dig, .int .i64 c.author, .int .i64 c.number, .string c.prev, .int .i64 c.time, .int .i64 c.kind, .int .i64 c.a, .int .i64 c.b, .int .i64 c.c, .slice none 0 0, .slice none 0 0, .string c.body, .int .i64 c.key, .string c.dig] 33)) := HB4.out.trans (((one_new w4 _).alloc (by simp) _).mono HB4.out.size)
  refine (HFK.out _ _ _ hby hrow).mono ?_
  rintro e w5 ⟨s, t, hnu, rfl, hb⟩
  have HNU := Lib.hid hnu
  have HB5 := Lib.hid (hby.trans (hb.mono hby.size))
  have HR5 := Lib.hid (hrow.later hb)
  have Xa5 : Hid (BoxS w5 w1.heap.size a) := Lib.hid (((Xa4.out.later (one_new _ _)).later (one_new _ _)).later hb)
  have Xb5 : Hid (BoxS w5 w2.heap.size b) := Lib.hid (((Xb4.out.later (one_new _ _)).later (one_new _ _)).later hb)
  have Xc5 : Hid (BoxS w5 w3.heap.size c) := Lib.hid (((Xc4.out.later (one_new _ _)).later (one_new _ _)).later hb)
  clear hb hnu hrow hby HB4 Xa4 Xb4 Xc4 HFK
  unfold forkC
  generalize Value.tuple #[Value.agg #[.int .i64 x.author, .int .i64 x.number, .string x.prev, .int .i64 x.time, .int .i64 x.kind, .int .i64 x.a, .int .i64 x.b, .int .i64 x.c, .slice none 0 0, .slice none 0 0, .string x.body, .int .i64 x.key, .string x.dig], Value.int .i64 0] = z1
  try generalize Value.agg #[.int .i64 x.author, .int .i64 x.number, .string x.prev, .int .i64 x.time, .int .i64 x.kind, .int .i64 x.a, .int .i64 x.b, .int .i64 x.c, .slice none 0 0, .slice none 0 0, .string x.body, .int .i64 x.key, .string x.dig] = z2
  try generalize Value.agg #[.int .i64 0, .int .i64 0, .string ⟨#[]⟩, .int .i64 5, .int .i64 11, .int .i64 0, .int .i64 0, .int .i64 0, .slice none 0 0, .slice none 0 0, .string ⟨#[]⟩, .int .i64 0, .string ⟨#[]⟩] = z3
  try generalize Value.agg #[.int .i64 x.author, .int .i64 x.number, .string x.prev, .int .i64 x.time, .int .i64 x.kind, .int .i64 x.a, .int .i64 x.b, .int .i64 x.c, .slice none 0 0, .slice none 0 0, .string x.body, .int .i64 x.key, .string x.dig] = z4
  try generalize Value.agg #[.int .i64 b.author, .int .i64 b.number, .string b.prev, .int .i64 b.time, .int .i64 b.kind, .int .i64 b.a, .int .i64 b.b, .int .i64 b.c, .slice none 0 0, .slice none 0 0, .string b.body, .int .i64 b.key, .string b.dig] = z4
  try generalize Value.agg #[.int .i64 a.author, .int .i64 a.number, .string a.prev, .int .i64 a.time, .int .i64 a.kind, .int .i64 a.a, .int .i64 a.b, .int .i64 a.c, .slice none 0 0, .slice none 0 0, .string a.body, .int .i64 a.key, .string a.dig] = z4
  try generalize Value.agg #[.int .i64 c.author, .int .i64 c.number, .string c.prev, .int .i64 c.time, .int .i64 c.kind, .int .i64 c.a, .int .i64 c.b, .int .i64 c.c, .slice none 0 0, .slice none 0 0, .string c.body, .int .i64 c.key, .string c.dig] = z4
  have hcd : (w5.alloc (.cells #[.int .i64 s.author, .int .i64 s.number, .string s.prev, .int .i64 s.time, .int .i64 s.kind, .int .i64 s.a, .int .i64 s.b, .int .i64 s.c, .slice none 0 0, .slice none 0 0, .string s.body, .int .i64 s.key, .string s.dig, .int .i64 t.author, .int .i64 t.number, .string t.prev, .int .i64 t.time, .int .i64 t.kind, .int .i64 t.a, .int .i64 t.b, .int .i64 t.c, .slice none 0 0, .slice none 0 0, .string t.body, .int .i64 t.key, .string t.dig] 41)).cell? ⟨w3.heap.size, 12, none⟩ = some (.string c.dig) := by
    obtain ⟨-, -, -, -, -, -, -, -, -, -, -, -, h12⟩ := stm_cells (A := none) (n := 0) (c := 0) (B := none) (m := 0) (k := 0) (s := c) (Xc5.out.later (one_new w5 (.cells #[.int .i64 s.author, .int .i64 s.number, .string s.prev, .int .i64 s.time, .int .i64 s.kind, .int .i64 s.a, .int .i64 s.b, .int .i64 s.c, .slice none 0 0, .slice none 0 0, .string s.body, .int .i64 s.key, .string s.dig, .int .i64 t.author, .int .i64 t.number, .string t.prev, .int .i64 t.time, .int .i64 t.kind, .int .i64 t.a, .int .i64 t.b, .int .i64 t.c, .slice none 0 0, .slice none 0 0, .string t.body, .int .i64 t.key, .string t.dig] 41)))
    exact h12
  go_wp2_with (refine wpList_store_new rfl 41 (.tmp 10) (.tmp 50) rfl 41 _ #[.int .i64 s.author, .int .i64 s.number, .string s.prev, .int .i64 s.time, .int .i64 s.kind, .int .i64 s.a, .int .i64 s.b, .int .i64 s.c, .slice none 0 0, .slice none 0 0, .string s.body, .int .i64 s.key, .string s.dig, .int .i64 t.author, .int .i64 t.number, .string t.prev, .int .i64 t.time, .int .i64 t.kind, .int .i64 t.a, .int .i64 t.b, .int .i64 t.c, .slice none 0 0, .slice none 0 0, .string t.body, .int .i64 t.key, .string t.dig] rfl rfl (by kernel_rfl) rfl (by simp [Value.oneCell']) ?_)
  clear hcd
  have hby : Below w.heap.size w (w5.alloc (.cells #[.int .i64 s.author, .int .i64 s.number, .string s.prev, .int .i64 s.time, .int .i64 s.kind, .int .i64 s.a, .int .i64 s.b, .int .i64 s.c, .slice none 0 0, .slice none 0 0, .string s.body, .int .i64 s.key, .string s.dig, .int .i64 t.author, .int .i64 t.number, .string t.prev, .int .i64 t.time, .int .i64 t.kind, .int .i64 t.a, .int .i64 t.b, .int .i64 t.c, .slice none 0 0, .slice none 0 0, .string t.body, .int .i64 t.key, .string t.dig] 41)) := HB5.out.trans ((one_new w5 _).mono HB5.out.size)
  refine (HBR.out _ _ _ hby (HR5.out.later (one_new _ _))).mono ?_
  rintro e w6 ⟨A6, c6, rfl, hb⟩
  have HB6 := Lib.hid (hby.trans (hb.mono hby.size))
  have HR6 := Lib.hid ((HR5.out.later (one_new _ _)).later hb)
  have HF6 : Hid (w6.heap[w5.heap.size]? = some (.cells #[.int .i64 s.author, .int .i64 s.number, .string s.prev, .int .i64 s.time, .int .i64 s.kind, .int .i64 s.a, .int .i64 s.b, .int .i64 s.c, .slice none 0 0, .slice none 0 0, .string s.body, .int .i64 s.key, .string s.dig, .int .i64 t.author, .int .i64 t.number, .string t.prev, .int .i64 t.time, .int .i64 t.kind, .int .i64 t.a, .int .i64 t.b, .int .i64 t.c, .slice none 0 0, .slice none 0 0, .string t.body, .int .i64 t.key, .string t.dig] 41 (0, 0))) := Lib.hid ((hb.block _ (by simp)).trans (heap_alloc_new _ _))
  have Xa6 : Hid (BoxS w6 w1.heap.size a) := Lib.hid ((Xa5.out.later (one_new _ _)).later hb)
  have Xb6 : Hid (BoxS w6 w2.heap.size b) := Lib.hid ((Xb5.out.later (one_new _ _)).later hb)
  clear hb hby HB5 HR5 Xa5 Xb5 Xc5 HBR
  try generalize Value.tuple #[Value.agg #[.int .i64 s.author, .int .i64 s.number, .string s.prev, .int .i64 s.time, .int .i64 s.kind, .int .i64 s.a, .int .i64 s.b, .int .i64 s.c, .slice none 0 0, .slice none 0 0, .string s.body, .int .i64 s.key, .string s.dig, .int .i64 t.author, .int .i64 t.number, .string t.prev, .int .i64 t.time, .int .i64 t.kind, .int .i64 t.a, .int .i64 t.b, .int .i64 t.c, .slice none 0 0, .slice none 0 0, .string t.body, .int .i64 t.key, .string t.dig], Value.bool true] = z1
  try generalize Value.agg #[.int .i64 s.author, .int .i64 s.number, .string s.prev, .int .i64 s.time, .int .i64 s.kind, .int .i64 s.a, .int .i64 s.b, .int .i64 s.c, .slice none 0 0, .slice none 0 0, .string s.body, .int .i64 s.key, .string s.dig, .int .i64 t.author, .int .i64 t.number, .string t.prev, .int .i64 t.time, .int .i64 t.kind, .int .i64 t.a, .int .i64 t.b, .int .i64 t.c, .slice none 0 0, .slice none 0 0, .string t.body, .int .i64 t.key, .string t.dig] = z2
  go_wp2_with fail
  refine (HCO.out _ _ _ HB6.out HR6.out).mono ?_
  rintro e w7 ⟨A7, c7, rfl, hb⟩
  have HB7 := Lib.hid (HB6.out.trans (hb.mono HB6.out.size))
  have Xa7 := Lib.hid (Xa6.out.later hb); have Xb7 := Lib.hid (Xb6.out.later hb)
  have hfn : w7.cell? ⟨w5.heap.size, 1, none⟩ = some (.int .i64 2) := by
    rw [cell_of_row _ _ _ _ _ _ ((hb.block _ (Array.getElem?_eq_some_iff.1 HF6.out).1).trans HF6.out)]
    show some (Value.int .i64 s.number) = _
    rw [HNU.out]
  clear hb HB6 HR6 HF6 Xa6 Xb6 HCO
  obtain ⟨ha0, ha1, ha2, ha3, ha4, ha5, ha6, ha7, ha8, ha9, ha10, ha11, ha12⟩ := stm_cells (A := none) (n := 0) (c := 0) (B := none) (m := 0) (k := 0) (s := a) Xa7.out
  obtain ⟨hb0, hb1, hb2, hb3, hb4, hb5, hb6, hb7, hb8, hb9, hb10, hb11, hb12⟩ := stm_cells (A := none) (n := 0) (c := 0) (B := none) (m := 0) (k := 0) (s := b) Xb7.out
  go_wp2_with fail
  clear ha0 ha1 ha2 ha3 ha4 ha5 ha6 ha7 ha8 ha9 ha10 ha11 ha12
  clear hb0 hb1 hb2 hb3 hb4 hb5 hb6 hb7 hb8 hb9 hb10 hb11 hb12
  refine (HFO.out _ HB7.out).mono ?_
  rintro e w8 ⟨rfl, hb⟩
  have HB8 := Lib.hid (HB7.out.trans (hb.mono HB7.out.size))
  clear hb
  go_wp2_with fail
  go_ret
  exact ⟨rfl, HB8.out⟩
end Go.Proofs.YtdioijnhliejpaaDoor
