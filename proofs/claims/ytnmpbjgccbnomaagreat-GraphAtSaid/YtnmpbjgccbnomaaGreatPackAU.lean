import Derived.Test.YtnmpbjgccbnomaaGreatPackAT
import Derived.Test.YtnmpbjgccbnomaaGreatPackAK
import Derived.Test.YtnmpbjgccbnomaaGreatPackAC
import Derived.Lib.AppendZerosOnto
import Derived.Lib.LazyBuf
/- Graphs: the walk of the reference's Same. -/
namespace Go.Proofs.YtnmpbjgccbnomaaGreat
open Go.RowKit
/-- Whether two edges are the same. -/
def sameE (a b : Edg) : Bool := (a.fr == b.fr) && ((a.tu == b.tu) && (a.lv == b.lv))
theorem sameE_iff (a b : Edg) : sameE a b = true ↔ a = b := by
  obtain ⟨a0, a1, a2⟩ := a
  obtain ⟨b0, b1, b2⟩ := b
  simp [sameE]
def sameEs (l m : List Edg) : Bool := (List.range l.length).all fun i => sameE (l.getD i noEdg) (m.getD i noEdg)
theorem sameEs_no {l m : List Edg} {i : Nat} (hi : i < l.length) (h : sameE (l.getD i noEdg) (m.getD i noEdg) = false) : sameEs l m = false := by
  unfold sameEs
  rw [List.all_eq_false]
  exact ⟨i, List.mem_range.2 hi, by rw [h]; decide⟩
theorem sameEs_yes {l m : List Edg} (h : ∀ i, i < l.length → sameE (l.getD i noEdg) (m.getD i noEdg) = true) : sameEs l m = true := by
  unfold sameEs
  rw [List.all_eq_true]
  exact fun i hi => h i (List.mem_range.1 hi)
/-- Whether two graphs are the same. -/
def sameG (s1 : Int) (e1 : List Edg) (g1 : List Int) (s2 : Int) (e2 : List Edg) (g2 : List Int) : Bool := if s1 = s2 then (if e1.length = e2.length then (if sameIB g1 g2 then sameEs e1 e2 else false) else false) else false
theorem ERow.three {w : World} {A : Option Addr} {n c : Nat} {l : List Edg} (h : ERow w A n c l) (i : Nat) (hi : i < n) : ∃ b off, A = some ⟨b, off, none⟩ ∧ w.cell? ⟨b, off + i * 3, none⟩ = some (.int .i64 (l.getD i noEdg).fr) ∧ w.cell? ⟨b, off + i * 3 + 1, none⟩ = some (.int .i64 (l.getD i noEdg).tu) ∧ w.cell? ⟨b, off + i * 3 + 2, none⟩ = some (.int .i64 (l.getD i noEdg).lv) := by
  obtain ⟨b, off, hA, hc⟩ := GRow.cells Edg.len (by decide) h noEdg i hi
  exact ⟨b, off, hA, hc 0 (by decide), hc 1 (by decide), hc 2 (by decide)⟩
set_option maxRecDepth 100000 in
set_option maxHeartbeats 4000000 in
theorem gsame_any (s1 : Int) (A : Option Addr) (n c : Nat) (e1 : List Edg) (B : Option Addr) (m k : Nat) (g1 : List Int) (s2 : Int) (A2 : Option Addr) (n2 c2 : Nat) (e2 : List Edg) (B2 : Option Addr) (m2 k2 : Nat) (g2 : List Int) (w : World) (h1 : ERow w A n c e1) (h2 : IRow w B m k g1) (h3 : ERow w A2 n2 c2 e2) (h4 : IRow w B2 m2 k2 g2) (hn : n ≤ 100000) (hm : m ≤ 100000) :
    Calls Tryz.prog 14 #[.agg #[.int .i64 s1, .slice A n c, .slice B m k], .agg #[.int .i64 s2, .slice A2 n2 c2, .slice B2 m2 k2]] w (SaysL (.bool (sameG s1 e1 g1 s2 e2 g2)) w) := by
  have HV : Hid (sameG s1 e1 g1 s2 e2 g2 = if s1 = s2 then (if n = n2 then (if sameIB g1 g2 then sameEs e1 e2 else false) else false) else false) := Lib.hid (by unfold sameG; rw [h1.len, h3.len])
  generalize sameG s1 e1 g1 s2 e2 g2 = bb at HV ⊢
  have HB0 : Hid (Below w.heap.size w ((w.alloc (.cells #[.int .i64 s1, .slice A n c, .slice B m k] 35)).alloc (.cells #[.int .i64 s2, .slice A2 n2 c2, .slice B2 m2 k2] 35))) := Lib.hid ((one_new w _).trans ((one_new _ _).mono (by simp)))
  have HX : Hid (((w.alloc (.cells #[.int .i64 s1, .slice A n c, .slice B m k] 35)).alloc (.cells #[.int .i64 s2, .slice A2 n2 c2, .slice B2 m2 k2] 35)).heap[w.heap.size]? = some (.cells #[.int .i64 s1, .slice A n c, .slice B m k] 35 (0, 0))) := Lib.hid ((Below.heap_alloc _ _ _ (by simp)).trans (heap_alloc_new _ _))
  have HY : Hid (((w.alloc (.cells #[.int .i64 s1, .slice A n c, .slice B m k] 35)).alloc (.cells #[.int .i64 s2, .slice A2 n2 c2, .slice B2 m2 k2] 35)).heap[w.heap.size + 1]? = some (.cells #[.int .i64 s2, .slice A2 n2 c2, .slice B2 m2 k2] 35 (0, 0))) := Lib.hid (heap_alloc2_new _ _ _)
  have H1 := Lib.hid (GRow.later h1 HB0.out); have H2 := Lib.hid (h2.later HB0.out); have H3 := Lib.hid (GRow.later h3 HB0.out); have H4 := Lib.hid (h4.later HB0.out)
  have HLN := Lib.hid (ERow.len h1)
  clear h1 h2 h3 h4
  go_enter Tryz.func14, Tryz.ntmps14
  have hc0 : ((w.alloc (.cells #[.int .i64 s1, .slice A n c, .slice B m k] 35)).alloc (.cells #[.int .i64 s2, .slice A2 n2 c2, .slice B2 m2 k2] 35)).cell? ⟨w.heap.size, 0, none⟩ = some (.int .i64 s1) := (cell_of_row _ _ 0 _ _ _ HX.out).trans rfl
  have hc1 : ((w.alloc (.cells #[.int .i64 s1, .slice A n c, .slice B m k] 35)).alloc (.cells #[.int .i64 s2, .slice A2 n2 c2, .slice B2 m2 k2] 35)).cell? ⟨w.heap.size, 1, none⟩ = some (.slice A n c) := (cell_of_row _ _ 1 _ _ _ HX.out).trans rfl
  have hc2 : ((w.alloc (.cells #[.int .i64 s1, .slice A n c, .slice B m k] 35)).alloc (.cells #[.int .i64 s2, .slice A2 n2 c2, .slice B2 m2 k2] 35)).cell? ⟨w.heap.size, 2, none⟩ = some (.slice B m k) := (cell_of_row _ _ 2 _ _ _ HX.out).trans rfl
  have hd0 : ((w.alloc (.cells #[.int .i64 s1, .slice A n c, .slice B m k] 35)).alloc (.cells #[.int .i64 s2, .slice A2 n2 c2, .slice B2 m2 k2] 35)).cell? ⟨w.heap.size + 1, 0, none⟩ = some (.int .i64 s2) := (cell_of_row _ _ 0 _ _ _ HY.out).trans rfl
  have hd1 : ((w.alloc (.cells #[.int .i64 s1, .slice A n c, .slice B m k] 35)).alloc (.cells #[.int .i64 s2, .slice A2 n2 c2, .slice B2 m2 k2] 35)).cell? ⟨w.heap.size + 1, 1, none⟩ = some (.slice A2 n2 c2) := (cell_of_row _ _ 1 _ _ _ HY.out).trans rfl
  have hd2 : ((w.alloc (.cells #[.int .i64 s1, .slice A n c, .slice B m k] 35)).alloc (.cells #[.int .i64 s2, .slice A2 n2 c2, .slice B2 m2 k2] 35)).cell? ⟨w.heap.size + 1, 2, none⟩ = some (.slice B2 m2 k2) := (cell_of_row _ _ 2 _ _ _ HY.out).trans rfl
  by_cases hs : s1 = s2
  · have b0 : (s1 != s2) = false := by rw [hs]; simp
    rw [if_pos hs] at HV
    clear hs
    by_cases hnn : n = n2
    · have b1 : ((n : Int) != (n2 : Int)) = false := by rw [hnn]; simp
      rw [if_pos hnn] at HV
      have HNN := Lib.hid hnn
      clear hnn
      go_wp2_with fail
      clear hc0 hc1 hc2 hd0 hd1 hd2 b0 b1
      generalize ((w.alloc (.cells #[.int .i64 s1, .slice A n c, .slice B m k] 35)).alloc (.cells #[.int .i64 s2, .slice A2 n2 c2, .slice B2 m2 k2] 35)) = y0 at *
      obtain ⟨g, hgg⟩ : ∃ g, w.heap.size = g := ⟨_, rfl⟩
      rw [hgg] at HX HY ⊢
      have HGG := Lib.hid hgg
      clear hgg
      refine (sameInts_any B m k g1 B2 m2 k2 g2 y0 H2.out H4.out (by omega)).mono ?_
      rintro e w1 ⟨rfl, hb⟩
      have HB1 := Lib.hid hb
      clear hb H2 H4
      cases hsi : sameIB g1 g2
      · rw [hsi, if_neg (by decide)] at HV
        clear hsi
        go_wp2_with fail
        go_ret
        exact ⟨by rw [HV.out]; rfl, HB0.out.trans (HB1.out.mono HB0.out.size)⟩
      · rw [hsi, if_pos rfl] at HV
        clear hsi
        go_wp2_with fail
        go_loopw [5] (fun i wr => ∃ j : Nat, j ≤ n ∧ i = .int .i64 j ∧ Hid ((∀ q, q < j → sameE (e1.getD q noEdg) (e2.getD q noEdg) = true) ∧ Below y0.heap.size y0 wr)) (fun i _ => n - (intOf i).toNat)
        case atStart => exact ⟨0, Nat.zero_le _, rfl, Lib.hid ⟨fun q h => absurd h (Nat.not_lt_zero _), HB1.out⟩⟩
        case round =>
          clear HB1
          obtain ⟨j, hj, rfl, HQ⟩ := hrel
          have HXR : Hid (wr.heap[g]? = some (.cells #[.int .i64 s1, .slice A n c, .slice B m k] 35 (0, 0))) := Lib.hid ((HQ.out.2.block _ (Array.getElem?_eq_some_iff.1 HX.out).1).trans HX.out)
          have HYR : Hid (wr.heap[g + 1]? = some (.cells #[.int .i64 s2, .slice A2 n2 c2, .slice B2 m2 k2] 35 (0, 0))) := Lib.hid ((HQ.out.2.block _ (Array.getElem?_eq_some_iff.1 HY.out).1).trans HY.out)
          have hc1 : wr.cell? ⟨g, 1, none⟩ = some (.slice A n c) := (cell_of_row _ _ 1 _ _ _ HXR.out).trans rfl
          have hd1 : wr.cell? ⟨g + 1, 1, none⟩ = some (.slice A2 n2 c2) := (cell_of_row _ _ 1 _ _ _ HYR.out).trans rfl
          by_cases hlt : j < n
          · have hlt2 : (j : Int) < (n : Int) := by omega
            obtain ⟨b1, o1, hA, hx0, hx1, hx2⟩ := ERow.three (GRow.later H1.out HQ.out.2) j hlt
            obtain ⟨b2, o2, hB, hy0, hy1, hy2⟩ := ERow.three (GRow.later H3.out HQ.out.2) j (by rw [← HNN.out]; exact hlt)
            subst hA hB
            have hlt3 : (j : Int) < (n2 : Int) := by rw [← HNN.out]; exact hlt2
            have HK := Lib.hid HQ.out.1; have HB7 := Lib.hid HQ.out.2
            clear HQ
            have HT0 : Hid (sameE (e1.getD j noEdg) (e2.getD j noEdg) = false → bb = false) := Lib.hid fun h => by rw [HV.out]; exact sameEs_no (by rw [HLN.out]; exact hlt) h
            obtain ⟨ok, hok⟩ : ∃ ok, sameE (e1.getD j noEdg) (e2.getD j noEdg) = ok := ⟨_, rfl⟩
            have HOK := Lib.hid hok
            rw [hok] at HT0
            unfold sameE at hok
            generalize (e1.getD j noEdg).fr = x0 at *
            generalize (e1.getD j noEdg).tu = x1 at *
            generalize (e1.getD j noEdg).lv = x2 at *
            generalize (e2.getD j noEdg).fr = y0' at *
            generalize (e2.getD j noEdg).tu = y1 at *
            generalize (e2.getD j noEdg).lv = y2 at *
            by_cases k0 : x0 = y0'
            · subst k0
              by_cases k1 : x1 = y1
              · subst k1
                by_cases k2 : x2 = y2
                · subst k2
                  have hok2 : ok = true := by rw [← hok]; simp
                  subst hok2
                  clear hok
                  go_wp2_with fail
                  go_quiet (fail)
                  go_wp2
                  exact ⟨⟨j + 1, hlt, by go_num, Lib.hid ⟨fun q hq => (by by_cases hqj : q = j; · rw [hqj]; exact HOK.out
                                                                          · exact HK.out q (by omega)), below_nq HB7.out _⟩⟩, by simp [intOf]; omega⟩
                · have b0 : (x2 == y2) = false := by rw [beq_eq_false_iff_ne]; exact k2
                  have HT := Lib.hid (HT0.out (by rw [← hok, b0]; simp))
                  clear hok k2
                  go_wp2_with fail
                  go_quiet (fail)
                  go_wp2
                  go_ret
                  exact ⟨by rw [HT.out]; rfl, HB0.out.trans ((below_nq HB7.out _).mono HB0.out.size)⟩
              · have b0 : (x1 == y1) = false := by rw [beq_eq_false_iff_ne]; exact k1
                have HT := Lib.hid (HT0.out (by rw [← hok, b0]; simp))
                clear hok k1
                go_wp2_with fail
                go_quiet (fail)
                go_wp2
                go_ret
                exact ⟨by rw [HT.out]; rfl, HB0.out.trans ((below_nq HB7.out _).mono HB0.out.size)⟩
            · have b0 : (x0 == y0') = false := by rw [beq_eq_false_iff_ne]; exact k0
              have HT := Lib.hid (HT0.out (by rw [← hok, b0]; simp))
              clear hok k0
              go_wp2_with fail
              go_quiet (fail)
              go_wp2
              go_ret
              exact ⟨by rw [HT.out]; rfl, HB0.out.trans ((below_nq HB7.out _).mono HB0.out.size)⟩
          · have hlt2 : ¬ (j : Int) < (n : Int) := by omega
            have HT : Hid (bb = true) := Lib.hid (by rw [HV.out]; exact sameEs_yes fun q hq => HQ.out.1 q (by have := HLN.out; omega))
            go_wp2_with fail
            go_ret
            exact ⟨by rw [HT.out]; rfl, HB0.out.trans (HQ.out.2.mono HB0.out.size)⟩
    · have b1 : ((n : Int) != (n2 : Int)) = true := by rw [bne_iff_ne]; omega
      rw [if_neg hnn] at HV
      clear hnn
      go_wp2_with fail
      go_ret
      exact ⟨by rw [HV.out]; rfl, HB0.out⟩
  · have b0 : (s1 != s2) = true := by rw [bne_iff_ne]; exact hs
    rw [if_neg hs] at HV
    clear hs
    go_wp2_with fail
    go_ret
    exact ⟨by rw [HV.out]; rfl, HB0.out⟩
end Go.Proofs.YtnmpbjgccbnomaaGreat
/- Graphs: what the functions of layer 11 give. Plain facts. -/
namespace Go.Proofs.YtnmpbjgccbnomaaGreat
open Go.RowKit
/-- A graph. -/
structure Gr where
  sz : Int
  es : List Edg
  gn : List Int
def noGr : Gr := ⟨0, [], []⟩
def keyB (z k : Int) : Bool := decide (0 ≤ k) && decide (k < z)
/-- Whether an edge's ends are two keys of those below z. -/
def endsB (z : Int) (e : Edg) : Bool := keyB z e.fr && (keyB z e.tu && !decide (e.fr = e.tu))
def levB (e : Edg) : Bool := decide (1 ≤ e.lv) && decide (e.lv ≤ 3)
def nextB (l : List Edg) (i : Nat) : Bool := decide (i = 0) || befE (l.getD (i - 1) noEdg) (l.getD i noEdg)
def freeB (g : List Int) (e : Edg) : Bool := !hasI g e.fr && !hasI g e.tu
def okE (G : Gr) (i : Nat) : Bool := endsB G.sz (G.es.getD i noEdg) && (levB (G.es.getD i noEdg) && (nextB G.es i && freeB G.gn (G.es.getD i noEdg)))
def headB (G : Gr) : Bool := decide (0 ≤ G.sz) && (decide (G.sz ≤ 64) && (decide (G.es.length ≤ 500) && setB G.gn G.sz))
def okG (G : Gr) : Bool := headB G && (List.range G.es.length).all (okE G)
/-- What Check says. -/
def checkG (G : Gr) : Int := if okG G then 0 else 14
theorem okG_head {G : Gr} (h : headB G = false) : okG G = false := by unfold okG; rw [h]; rfl
theorem okG_no {G : Gr} {i : Nat} (hi : i < G.es.length) (h : okE G i = false) : okG G = false := by
  unfold okG
  rw [Bool.and_eq_false_iff]
  right
  rw [List.all_eq_false]
  exact ⟨i, List.mem_range.2 hi, by rw [h]; decide⟩
theorem okG_yes {G : Gr} (h0 : headB G = true) (h : ∀ i, i < G.es.length → okE G i = true) : okG G = true := by
  unfold okG
  rw [h0, Bool.true_and, List.all_eq_true]
  exact fun i hi => h i (List.mem_range.1 hi)
/-- The place of an edge, or where it would stand. -/
def idxE (x : Edg) : List Edg → Nat
  | [] => 0
  | e :: m => if befE e x then idxE x m + 1 else 0
def thereE (x : Edg) (l : List Edg) : Bool := decide (idxE x l < l.length) && (decide ((l.getD (idxE x l) noEdg).fr = x.fr) && decide ((l.getD (idxE x l) noEdg).tu = x.tu))
theorem idxE_le (x : Edg) : ∀ l : List Edg, idxE x l ≤ l.length
  | [] => Nat.le_refl _
  | e :: m => by
    unfold idxE
    have := idxE_le x m
    split
    · simp only [List.length_cons]; omega
    · exact Nat.zero_le _
theorem idxE_low (x : Edg) : ∀ (l : List Edg) (i : Nat), i < idxE x l → befE (l.getD i noEdg) x = true
  | [], i, h => absurd h (Nat.not_lt_zero _)
  | e :: m, i, h => by
    unfold idxE at h
    split at h
    · rename_i hb
      cases i with
      | zero => exact hb
      | succ i => rw [List.getD_cons_succ]; exact idxE_low x m i (by omega)
    · exact absurd h (Nat.not_lt_zero _)
theorem idxE_at (x : Edg) : ∀ l : List Edg, idxE x l < l.length → befE (l.getD (idxE x l) noEdg) x = false
  | [], h => absurd h (Nat.not_lt_zero _)
  | e :: m, h => by
    unfold idxE at h ⊢
    split
    · rename_i hb
      rw [if_pos hb] at h
      rw [List.getD_cons_succ]
      exact idxE_at x m (by simpa using h)
    · rename_i hb
      simpa using hb
def withG (G : Gr) (e : Edg) : Gr × Int :=
  if okG G = false then (noGr, 14) else if endsB G.sz e = false then (noGr, 4) else if freeB G.gn e = false then (noGr, 4) else if levB e = false then (noGr, 2) else if thereE e G.es then (noGr, 19)
  else if G.es.length = 500 then (noGr, 3) else (⟨G.sz, G.es.take (idxE e G.es) ++ e :: G.es.drop (idxE e G.es), G.gn⟩, 0)
def withoutG (G : Gr) (fr tu : Int) : Gr × Int :=
  if okG G = false then (noGr, 14) else if thereE ⟨fr, tu, 0⟩ G.es then (⟨G.sz, G.es.take (idxE ⟨fr, tu, 0⟩ G.es) ++ G.es.drop (idxE ⟨fr, tu, 0⟩ G.es + 1), G.gn⟩, 0) else (noGr, 19)
def levelG (G : Gr) (lv : Int) : Gr := ⟨G.sz, G.es.filter (fun e => decide (lv ≤ e.lv)), G.gn⟩
def edgeOf (v : Vou) : Edg := ⟨v.fr, v.tu, v.lv⟩
def edgesAt (L : List Stm) (tm lv : Int) : List Edg := ((activeS L tm).filter fun v => decide (lv ≤ v.lv)).map edgeOf
def atG (L : List Stm) (tm lv : Int) : Gr × Int :=
  if lv < 1 ∨ 3 < lv then (noGr, 2) else if 500 < (edgesAt L tm lv).length then (noGr, 3) else (⟨64, edgesAt L tm lv, goneS L tm⟩, 0)
/-- A graph as a value. -/
def GHold (w : World) (G : Gr) (v : Value) : Prop := ∃ A n c B m k, v = .agg #[.int .i64 G.sz, .slice A n c, .slice B m k] ∧ ERow w A n c G.es ∧ IRow w B m k G.gn
theorem GHold.later {w w' : World} {G : Gr} {v : Value} (h : GHold w G v) (hb : Later w w') : GHold w' G v := by
  obtain ⟨A, n, c, B, m, k, rfl, h1, h2⟩ := h
  exact ⟨A, n, c, B, m, k, rfl, GRow.later h1 hb, h2.later hb⟩
/-- A graph whose lists lie in blocks from B on. -/
def GOwn (w : World) (B : Nat) (G : Gr) (v : Value) : Prop := ∃ e g, v = .agg #[.int .i64 G.sz, e, g] ∧ w.ownsRow B 53 3 e G.es.length (rowC Edg.cells G.es) ∧ w.ownsRow B 3 1 g G.gn.length (intsV G.gn)
theorem GOwn.hold {w : World} {B : Nat} {G : Gr} {v : Value} (h : GOwn w B G v) : GHold w G v := by
  obtain ⟨e, g, rfl, h1, h2⟩ := h
  obtain ⟨A, c, rfl, hr⟩ := Row.of_own h1
  obtain ⟨A2, c2, rfl, hr2⟩ := Row.of_own h2
  exact ⟨_, _, _, _, _, _, rfl, hr, hr2⟩
theorem GOwn.later {w w' : World} {B : Nat} {G : Gr} {v : Value} (h : GOwn w B G v) (hb : Below w.heap.size w w') : GOwn w' B G v := by
  obtain ⟨e, g, rfl, h1, h2⟩ := h
  exact ⟨e, g, rfl, own_later h1 hb, own_later h2 hb⟩
theorem GOwn.none (w : World) (B : Nat) : GOwn w B noGr (.agg #[.int .i64 0, .slice none 0 0, .slice none 0 0]) := ⟨_, _, rfl, World.ownsRow_nil _ _ _ _, World.ownsRow_nil _ _ _ _⟩
/-- A call that gives a graph; one that gives a graph of its own; and those with an error. -/
def GivesG (w : World) (G : Gr) (x : Ending) (w' : World) : Prop := ∃ v, x = .returned v ∧ GHold w' G v ∧ Below w.heap.size w w'
def GivesGE (w : World) (r : Gr × Int) (x : Ending) (w' : World) : Prop := ∃ v, x = .returned (.tuple #[v, .int .i64 r.2]) ∧ GHold w' r.1 v ∧ Below w.heap.size w w'
def GivesGOE (w : World) (r : Gr × Int) (x : Ending) (w' : World) : Prop := ∃ v, x = .returned (.tuple #[v, .int .i64 r.2]) ∧ GOwn w' w.heap.size r.1 v ∧ Below w.heap.size w w'
theorem GivesGOE.weak {w w' : World} {r : Gr × Int} {x : Ending} (h : GivesGOE w r x w') : GivesGE w r x w' := by
  obtain ⟨v, h1, h2, h3⟩ := h
  exact ⟨v, h1, h2.hold, h3⟩
end Go.Proofs.YtnmpbjgccbnomaaGreat
/- Graphs: valid ones, and what comes of adding and taking away an edge. Plain facts. -/
namespace Go.Proofs.YtnmpbjgccbnomaaGreat
open Go.RowKit
def ltE (a b : Edg) : Prop := a.fr < b.fr ∨ (a.fr = b.fr ∧ a.tu < b.tu)
theorem befE_iff (a b : Edg) : befE a b = true ↔ ltE a b := by
  unfold befE ltE
  by_cases h : a.fr < b.fr
  · rw [if_pos h]; simp [h]
  · rw [if_neg h]
    by_cases k : a.fr = b.fr
    · rw [if_pos k]; simp [k]
    · rw [if_neg k]; simp [h, k]
theorem ltE_trans {a b c : Edg} (h : ltE a b) (k : ltE b c) : ltE a c := by unfold ltE at *; omega
theorem getDE {l : List Edg} {i : Nat} (h : i < l.length) : l.getD i noEdg = l[i] := by rw [List.getD_eq_getElem?_getD, List.getElem?_eq_getElem h]; rfl
theorem memE {l : List Edg} {y : Edg} : y ∈ l ↔ ∃ i, i < l.length ∧ l.getD i noEdg = y := by
  rw [List.mem_iff_getElem]
  constructor
  · rintro ⟨i, hi, he⟩; exact ⟨i, hi, by rw [getDE hi]; exact he⟩
  · rintro ⟨i, hi, he⟩; exact ⟨i, hi, by rw [← getDE hi]; exact he⟩
theorem asc_pair {α : Type} {r : α → α → Prop} (ht : ∀ a b c, r a b → r b c → r a c) : ∀ {l : List α}, (∀ i (h : i + 1 < l.length), r l[i] l[i + 1]) → l.Pairwise r
  | [], _ => List.Pairwise.nil
  | a :: l, h => by
    have ih : l.Pairwise r := asc_pair ht fun i hi => by have := h (i + 1) (by simpa using hi); simpa using this
    refine List.Pairwise.cons (fun b hb => ?_) ih
    cases l with
    | nil => cases hb
    | cons c m =>
      have h0 : r a c := by have := h 0 (by simp); simpa using this
      rcases List.mem_cons.1 hb with rfl | hb
      · exact h0
      · exact ht _ _ _ h0 ((List.pairwise_cons.1 ih).1 b hb)
theorem pair_at {α : Type} {r : α → α → Prop} {l : List α} (h : l.Pairwise r) {i j : Nat} (hij : i < j) (hj : j < l.length) : r l[i] l[j] := List.pairwise_iff_getElem.1 h i j (by omega) hj hij
/-- A valid graph. -/
structure Good11 (G : Gr) : Prop where
  lo : 0 ≤ G.sz
  hi : G.sz ≤ 64
  len : G.es.length ≤ 500
  set : setB G.gn G.sz = true
  ends : ∀ e ∈ G.es, endsB G.sz e = true
  lev : ∀ e ∈ G.es, levB e = true
  asc : G.es.Pairwise ltE
  free : ∀ e ∈ G.es, freeB G.gn e = true
theorem okG_iff (G : Gr) : okG G = true ↔ Good11 G := by
  constructor
  · intro h
    unfold okG at h
    rw [Bool.and_eq_true, List.all_eq_true] at h
    obtain ⟨h0, h1⟩ := h
    unfold headB at h0
    rw [Bool.and_eq_true, Bool.and_eq_true, Bool.and_eq_true, decide_eq_true_eq, decide_eq_true_eq, decide_eq_true_eq] at h0
    have hk : ∀ i, i < G.es.length → endsB G.sz (G.es.getD i noEdg) = true ∧ levB (G.es.getD i noEdg) = true ∧ nextB G.es i = true ∧ freeB G.gn (G.es.getD i noEdg) = true := fun i hi => by
      have := h1 i (List.mem_range.2 hi)
      unfold okE at this
      rw [Bool.and_eq_true, Bool.and_eq_true, Bool.and_eq_true] at this
      exact this
    refine ⟨h0.1, h0.2.1, h0.2.2.1, h0.2.2.2, fun e he => ?_, fun e he => ?_, ?_, fun e he => ?_⟩
    · obtain ⟨i, hi, rfl⟩ := memE.1 he; exact (hk i hi).1
    · obtain ⟨i, hi, rfl⟩ := memE.1 he; exact (hk i hi).2.1
    · refine asc_pair (r := ltE) (fun _ _ _ h k => ltE_trans h k) fun i hi => ?_
      have := (hk (i + 1) hi).2.2.1
      unfold nextB at this
      rw [Bool.or_eq_true, decide_eq_true_eq] at this
      rcases this with h | h
      · exact absurd h (Nat.succ_ne_zero _)
      · rw [befE_iff, Nat.add_sub_cancel, getDE (by omega), getDE hi] at h; exact h
    · obtain ⟨i, hi, rfl⟩ := memE.1 he; exact (hk i hi).2.2.2
  · intro h
    refine okG_yes ?_ fun i hi => ?_
    · unfold headB
      rw [decide_eq_true h.lo, decide_eq_true h.hi, decide_eq_true h.len, h.set]; rfl
    · have hm : G.es.getD i noEdg ∈ G.es := memE.2 ⟨i, hi, rfl⟩
      unfold okE nextB
      rw [h.ends _ hm, h.lev _ hm, h.free _ hm]
      by_cases h0 : i = 0
      · rw [decide_eq_true h0]; rfl
      · have : befE (G.es.getD (i - 1) noEdg) (G.es.getD i noEdg) = true := by
          rw [befE_iff, getDE (by omega), getDE hi]
          exact pair_at h.asc (by omega) hi
        rw [this]; simp
theorem noGr_good : Good11 noGr := ⟨Int.le_refl _, by decide, Nat.zero_le _, rfl, fun _ h => (nomatch h), fun _ h => (nomatch h), List.Pairwise.nil, fun _ h => (nomatch h)⟩
end Go.Proofs.YtnmpbjgccbnomaaGreat
/- Graphs: the walk of the reference's Copy. -/
namespace Go.Proofs.YtnmpbjgccbnomaaGreat
open Go.RowKit
theorem edg_info : (Tryz.prog.info? 53).map (fun i => (i.zero, i.size, i.bytes)) = some (some (.agg #[.int .i64 0, .int .i64 0, .int .i64 0]), 3, 24) := by kernel_rfl
theorem edg_size : (Tryz.prog.info? 53).map (·.size) = some 3 := by kernel_rfl
theorem gr_size : (Tryz.prog.info? 35).map (·.size) = some 3 := by kernel_rfl
theorem fold3 (p : Edg) : Array.foldl (fun (cs : Array Value) (x : Value × Nat) => cs.setIfInBounds x.snd x.fst) #[.int .i64 0, .int .i64 0, .int .i64 0] p.arr.zipIdx 0 p.arr.size = p.arr := by kernel_rfl
theorem fold3n (p : Edg) : Array.foldl (fun (cs : Array Value) (x : Value × Nat) => cs.setIfInBounds x.snd x.fst) #[.int .i64 0, .int .i64 0, .int .i64 0] p.arr.zipIdx 0 3 = p.arr := fold3 p
theorem own_base {w : World} {B B' : Nat} {e : TypeId} {sz : Nat} {v : Value} {n : Nat} {xs : List Value} (h : w.ownsRow B e sz v n xs) (hb : B' ≤ B) : w.ownsRow B' e sz v n xs := by
  refine ⟨h.1, ?_⟩
  rcases h.2 with hn | ⟨g, cap, cur, rfl, hg, rest⟩
  · exact .inl hn
  · exact .inr ⟨g, cap, cur, rfl, Nat.le_trans hb hg, rest⟩
end Go.Proofs.YtnmpbjgccbnomaaGreat
/- Graphs: the walk of the reference's index. -/
namespace Go.Proofs.YtnmpbjgccbnomaaGreat
open Go.RowKit
end Go.Proofs.YtnmpbjgccbnomaaGreat
/- Graphs: the walk of the reference's Check. -/
namespace Go.Proofs.YtnmpbjgccbnomaaGreat
open Go.RowKit
end Go.Proofs.YtnmpbjgccbnomaaGreat
/- Graphs: the walk of the reference's With. -/
namespace Go.Proofs.YtnmpbjgccbnomaaGreat
open Go.RowKit
theorem results_ge {f : Func} {i j : Nat} (hr : f.results = #[.cell i 35, .tmp j]) {tmps : Array Value} {w : World} {s : Nat} {cs : Array Value} {v : Value} (h2 : tmps.getD i undef = .pointer (some ⟨s, 0, none⟩)) (h3 : tmps.getD j undef = v)
    (hs : w.heap[s]? = some (.cells cs 35 (0, 0))) (hz : cs.size = 3) : (results f tmps).run Tryz.prog w = .ok (.tuple #[.agg cs, v]) w := by
  have h2' : tmps[i]?.getD undef = .pointer (some ⟨s, 0, none⟩) := by simpa using h2
  have h3' : tmps[j]?.getD undef = v := by simpa using h3
  have hl := run_loadVar_row (P := Tryz.prog) w s 35 35 cs (0, 0) _ hs Tryz.underlying35 rfl (by rw [hz]; kernel_rfl)
  unfold results
  rw [hr]
  simp [h2', h3', asAddr, hl]
end Go.Proofs.YtnmpbjgccbnomaaGreat
/- Slices of structs in a block that is known whole: append in place, append of zeros, clear, copy, store. Plain facts over any program. -/
namespace Go.Proofs.YtnmpbjgccbnomaaGreat
open Go.RowKit Go
section
variable {P : Program} {ops : Array Oper} {rest : List Oper} {o : Oper} {a : Act} {Q : Exit → Act → World → Prop}
theorem But.row (g : Nat) (w : World) (cs : Array Value) : But g w (w.setRow g cs) := ⟨rfl, rfl, rfl, (below_setRow (Below.refl g w) (Nat.le_refl _) cs).size, fun _ _ hne => setRow_other _ _ _ _ hne⟩
theorem size_of_info {e : TypeId} {size : Nat} (h : (P.info? e).map (·.size) = some size) : ∃ i0, P.info? e = some i0 ∧ i0.size = size := by
  cases hq : P.info? e with
  | none => rw [hq] at h; cases h
  | some i => rw [hq] at h; exact ⟨i, rfl, by simpa using h⟩
/-- append where there is room: in place. -/
theorem wpList_app_room (w : World) (hgd : o.guard = none) (s x : Operand) (t tx e : TypeId) (ho : o.op = .call { callee := .builtin .append, args := #[s, x], argTypes := #[t, tx] })
    (ht : P.underlying t = some (.slice e)) {size : Nat} (hsz : (P.info? e).map (·.size) = some size) (g n cap : Nat) (cur : List Value) (hg : w.heap[g]? = some (.cells cur.toArray e (0, 0))) (hcap : cur.length = cap * size)
    (hs : a.eval s = .slice (some ⟨g, 0, none⟩) n cap) (X : Value) (m : Nat) (news : List Value) (hsrc : Src P size tx X m news w) (hx : a.eval x = X) (hroom : n + m ≤ cap)
    (h : ∀ w', w'.heap[g]? = some (.cells (cur.take (n * size) ++ news ++ cur.drop ((n + m) * size)).toArray e (0, 0)) → But g w w' → wpList P ops Q rest (a.put o.dst (.slice (some ⟨g, 0, none⟩) (n + m) cap)) w') : wpList P ops Q (o :: rest) a w := by
  obtain ⟨i0, hi0, rfl⟩ := size_of_info hsz
  have hl := hsrc.newsLen
  have hfit : n * i0.size + news.length ≤ cur.toArray.size := by rw [hl, List.size_toArray, hcap, ← Nat.add_mul]; exact Nat.mul_le_mul_right _ hroom
  have hst := run_storeCells_at P g (n * i0.size) e news 0 cur.toArray w hg (by simpa using hfit) hsrc.one
  simp only [Nat.add_zero] at hst
  have hr : (Builtin.append_ #[t, tx] o.type #[.slice (some ⟨g, 0, none⟩) n cap, X]).run P w = .ok (.slice (some ⟨g, 0, none⟩) (n + m) cap) (w.setRow g (cur.take (n * i0.size) ++ news ++ cur.drop ((n + m) * i0.size)).toArray) := by
    rw [show (n + m) * i0.size = n * i0.size + news.length by rw [hl, Nat.add_mul]]
    rcases hsrc.kind with ⟨e', hk⟩ | hk <;> simp [Builtin.append_, run_underlying ht, run_underlying hk, sizeOf, typeInfo, hi0, hsrc.len, hroom, hsrc.cells, Addr.add_lit, hst]
  refine wpList_plain hgd fun K hK => ?_
  unfold Oper.wp execOp
  simp only [ho, resolve, invoke, builtin, Sem.run_bind, Sem.run_pure, Result.andThen_ok, List.map_toArray, List.map_cons, List.map_nil, hs, hx, hr]
  exact hK _ _ (h _ (setRow_heap w g _ _ e _ hg) (But.row _ _ _))
/-- append of k zeros where there is no room: a new block. -/
theorem wpList_app_zeros (w : World) (hgd : o.guard = none) (s x : Operand) (t tx e : TypeId) (ho : o.op = .call { callee := .builtin .append, args := #[s, x], argTypes := #[t, tx] })
    (ht : P.underlying t = some (.slice e)) (htx : P.underlying tx = some (.int .i64)) {z : Value} {size bytes : Nat} (hi : (P.info? e).map (fun i => (i.zero, i.size, i.bytes)) = some (some z, size, bytes)) (hzs : z.cells.size = size) (h0 : 0 < size)
    (A : Option Addr) (n c : Nat) (cs : List Value) (hrow : Row w A n c size cs) (hs : a.eval s = .slice A n c) (k : Nat) {kk : Int} (hx : a.eval x = .int .i64 kk) (hkk : kk = (k : Int)) (hk : 0 < k) (hroom : c < n + k) (h63 : n + k ≤ maxLen) (hbytes : (n + k) * bytes ≤ 140737488355328)
    (h : ∀ w' (cap : Nat) (tail : List Value), n + k ≤ cap → cap ≤ maxLen → w'.heap[w.heap.size]? = some (.cells (cs ++ tail).toArray e (0, 0)) → (cs ++ tail).length = cap * size → Below w.heap.size w w' → wpList P ops Q rest (a.put o.dst (.slice (some ⟨w.heap.size, 0, none⟩) (n + k) cap)) w') : wpList P ops Q (o :: rest) a w := by
  obtain ⟨i0, hi0, hz0, hz1, hz2⟩ := info_parts hi
  subst hkk
  have hm : n + k ≤ 9223372036854775807 := by simp only [maxLen] at h63; omega
  have hold : (Builtin.firstCells i0.size n (.slice A n c)).run P w.drew = .ok cs.toArray w.drew := by
    rw [hz1]
    rcases hA : A with _ | ad
    · obtain ⟨rfl, rfl⟩ := hrow.nil hA
      have : cs = [] := List.eq_nil_of_length_eq_zero (by simpa using hrow.len)
      subst this
      exact run_firstCells_none _ _ _ _ _
    · refine run_firstCells_some w.drew size n ad n c cs hrow.len fun j u hj => ?_
      have hj2 : j < cs.length := (List.getElem?_eq_some_iff.1 hj).1
      have h2 := hrow.len
      have hn : 0 < n := by
        rcases Nat.eq_zero_or_pos n with e1 | e1
        · rw [e1, Nat.zero_mul] at h2; omega
        · exact e1
      obtain ⟨b, off, hA', hc⟩ := hrow.form hn
      rw [hA] at hA'; injection hA' with hA'; subst hA'
      rw [Addr.add_lit]
      exact (hc j (by omega)).trans hj
  have hr := Lib.run_append_grow_zeros (P := P) w t tx o.type e i0 z .i64 .i64 ht htx hi0 hz0 A n c cs hold k hk (by omega) hroom (by omega) (by rw [hz2]; have : k * bytes ≤ (n + k) * bytes := Nat.mul_le_mul_right _ (by omega); omega) (by rw [hz2]; exact growslice_fits hroom hbytes)
  have hge := grownCap_ge w (n + k) c e
  have hcm := grownCap_le_maxLen w (n + k) c e h63
  refine wpList_plain hgd fun K hK => ?_
  unfold Oper.wp execOp
  simp only [ho, resolve, invoke, builtin, Sem.run_bind, Sem.run_pure, Result.andThen_ok, List.map_toArray, List.map_cons, List.map_nil, hs, hx, hr]
  refine hK _ _ (h _ _ (Builtin.zeroCells z.cells k ++ Builtin.zeroCells z.cells (grownCap w (n + k) c e - (n + k))).toList hge hcm ?_ ?_ ((Below.refl _ _).drew.alloc (Nat.le_refl _) _))
  · have h1 := heap_alloc_new w.drew (.cells (cs.toArray ++ Builtin.zeroCells z.cells k ++ Builtin.zeroCells z.cells (grownCap w (n + k) c e - (n + k))) e)
    refine h1.trans ?_
    simp
  · have h2 := hrow.len
    simp only [List.length_append, Array.toList_append, Array.length_toList, size_zeroCells, hzs, h2, ← Nat.add_mul]
    congr 1
    omega
/-- clear of a part of a block. -/
theorem run_clear_row (w : World) (t e : TypeId) (ht : P.underlying t = some (.slice e)) {z : Value} {size : Nat} (hv : ∀ w, (zeroValue e).run P w = .ok z w) (hzs : z.cells.size = size) (hz1 : ∀ n, ∀ u ∈ (Builtin.zeroCells z.cells n).toList, u.oneCell' = true) (g q n c : Nat) (cur : List Value) (hg : w.heap[g]? = some (.cells cur.toArray e (0, 0)))
    (A : Option Addr) (hA : 0 < n → A = some ⟨g, q * size, none⟩) (hfit : (q + n) * size ≤ cur.length) :
    ∃ w' zs, zs.length = n * size ∧ (∀ ty, (Builtin.clear_ #[t] ty #[.slice A n c]).run P w = .ok (.tuple #[]) w') ∧ w'.heap[g]? = some (.cells (cur.take (q * size) ++ zs ++ cur.drop ((q + n) * size)).toArray e (0, 0)) ∧ But g w w' := by
  rcases n with _ | n
  · refine ⟨w, [], by simp, fun ty => ?_, ?_, But.refl _ _⟩
    · rcases A with _ | ad <;> simp [Builtin.clear_, run_underlying ht]
    · rw [List.append_nil, Nat.add_zero, List.take_append_drop]; exact hg
  · have hzl : (Builtin.zeroCells z.cells (n + 1)).toList.length = (n + 1) * size := by rw [Array.length_toList, size_zeroCells, hzs]
    have hfit2 : q * size + (Builtin.zeroCells z.cells (n + 1)).toList.length ≤ cur.toArray.size := by rw [hzl, List.size_toArray, ← Nat.add_mul]; exact hfit
    have hst := run_storeCells_at P g (q * size) e (Builtin.zeroCells z.cells (n + 1)).toList 0 cur.toArray w hg (by simpa using hfit2) (hz1 _)
    simp only [Nat.add_zero] at hst
    refine ⟨_, (Builtin.zeroCells z.cells (n + 1)).toList, hzl, fun ty => ?_, setRow_heap w g _ _ e _ hg, But.row _ _ _⟩
    rw [hA (by omega), show (q + (n + 1)) * size = q * size + (Builtin.zeroCells z.cells (n + 1)).toList.length by rw [hzl, Nat.add_mul]]
    simp [Builtin.clear_, run_underlying ht, hv, hst]
/-- copy into a part of a block. -/
theorem run_copy_rowE (w : World) (t tx e : TypeId) (ht : P.underlying t = some (.slice e)) {size : Nat} (hsz : (P.info? e).map (·.size) = some size) (g q dn dc : Nat) (cur : List Value) (hg : w.heap[g]? = some (.cells cur.toArray e (0, 0)))
    (A : Option Addr) (k c c' : Nat) (cs : List Value) (m : Nat) (hm : m = min k dn) (hrow : Row w A m c' size cs) (h1 : ∀ u ∈ cs, u.oneCell' = true) (hfit : (q + m) * size ≤ cur.length) :
    ∃ w', (∀ ty, (Builtin.copy_ #[t, tx] ty #[.slice (some ⟨g, q * size, none⟩) dn dc, .slice A k c]).run P w = .ok (goInt m) w') ∧ w'.heap[g]? = some (.cells (cur.take (q * size) ++ cs ++ cur.drop ((q + m) * size)).toArray e (0, 0)) ∧ But g w w' := by
  obtain ⟨i0, hi0, rfl⟩ := size_of_info hsz
  have hml : cs.length = m * i0.size := hrow.len
  have hfc : (Builtin.firstCells i0.size m (.slice A k c)).run P w = .ok cs.toArray w := by
    rcases hA : A with _ | ad
    · obtain ⟨rfl, rfl⟩ := hrow.nil hA
      have : cs = [] := List.eq_nil_of_length_eq_zero (by simpa using hrow.len)
      subst this
      exact run_firstCells_none _ _ _ _ _
    · refine run_firstCells_some w i0.size m ad k c _ hml fun j u hj => ?_
      have hj2 : j < m * i0.size := by rw [← hml]; exact (List.getElem?_eq_some_iff.1 hj).1
      have hn : 0 < m := by
        rcases Nat.eq_zero_or_pos m with e1 | e1
        · rw [e1, Nat.zero_mul] at hj2; omega
        · omega
      obtain ⟨b, off, hA', hc⟩ := hrow.form hn
      rw [hA] at hA'; injection hA' with hA'; subst hA'
      rw [Addr.add_lit]
      exact (hc j hj2).trans hj
  have hfit2 : q * i0.size + cs.length ≤ cur.toArray.size := by rw [hml, List.size_toArray, ← Nat.add_mul]; exact hfit
  have hst := run_storeCells_at P g (q * i0.size) e cs 0 cur.toArray w hg (by simpa using hfit2) h1
  simp only [Nat.add_zero] at hst
  refine ⟨_, fun ty => ?_, setRow_heap w g _ (cur.take (q * i0.size) ++ cs ++ cur.drop ((q + m) * i0.size)).toArray e _ hg, But.row _ _ _⟩
  rw [show (q + m) * i0.size = q * i0.size + cs.length by rw [hml, Nat.add_mul]]
  simp [Builtin.copy_, run_underlying ht, sizeOf, typeInfo, hi0, Builtin.lenOf, show Nat.min k dn = m from hm.symm, hfc, hst]
/-- A whole struct stored at a place of a block. -/
theorem wpList_store_partE (w : World) (hgd : o.guard = none) (ty : TypeId) (x y : Operand) (ho : o.op = .store ty x y) (g q off : Nat) (e : TypeId) (cur : List Value) (hg : w.heap[g]? = some (.cells cur.toArray e (0, 0))) (cells : Array Value)
    (hx : a.eval x = .pointer (some ⟨g, off, none⟩)) (hoff : off = q) (hy : a.eval y = .agg cells) (hi : (P.info? ty).map (·.size) = some cells.size) (h1 : ∀ u ∈ cells.toList, u.oneCell' = true) (hfit : q + cells.size ≤ cur.length)
    (h : ∀ w', w'.heap[g]? = some (.cells (cur.take q ++ cells.toList ++ cur.drop (q + cells.size)).toArray e (0, 0)) → But g w w' → w'.heap.size = w.heap.size → wpList P ops Q rest (a.put o.dst undef) w') : wpList P ops Q (o :: rest) a w := by
  subst hoff
  obtain ⟨i0, hi0, hz0⟩ := size_of_info hi
  have hst := run_storeCells_at P g off e cells.toList 0 cur.toArray w hg (by simpa using hfit) h1
  simp only [Nat.add_zero, Array.length_toList] at hst
  have hr : (storeVar ty ⟨g, off, none⟩ (.agg cells)).run P w = .ok () (w.setRow g (cur.take off ++ cells.toList ++ cur.drop (off + cells.size)).toArray) := by
    simp [storeVar, sizeOf, typeInfo, hi0, Value.cells, hz0, hst]
  refine wpList_plain hgd fun K hK => ?_
  unfold Oper.wp execOp
  simp only [ho, hx, hy, Instr.storeAt, Instr.sureAddr, Sem.run_bind, Sem.run_pure, Result.andThen_ok, hr]
  exact hK _ _ (h _ (setRow_heap w g _ _ e _ hg) (But.row _ _ _) (by simp [World.setRow]))
end
end Go.Proofs.YtnmpbjgccbnomaaGreat
/- Blocks of edges; the walks of slices.Clone and slices.Delete. -/
namespace Go.Proofs.YtnmpbjgccbnomaaGreat
open Go.RowKit
/-- A block of edges: a list, and whatever stands behind it. -/
structure EBlk (w : World) (B g n cap : Nat) (l : List Edg) (T : List Value) : Prop where
  lo : B ≤ g
  at_ : w.heap[g]? = some (.cells (rowC Edg.cells l ++ T).toArray 53 (0, 0))
  len : l.length = n
  room : n ≤ cap
  mx : cap ≤ maxLen
  size : (rowC Edg.cells l ++ T).length = cap * 3
theorem eblk_of_own {w : World} {B : Nat} {v : Value} {n : Nat} {l : List Edg} (ho : w.ownsRow B 53 3 v n (rowC Edg.cells l)) (h0 : 0 < n) : ∃ g cap T, v = .slice (some ⟨g, 0, none⟩) n cap ∧ EBlk w B g n cap l T := by
  obtain ⟨hlen, ⟨rfl, hz⟩ | ⟨g, cap, cur, rfl, hBg, hg, hnc, hcm, hcs, htk⟩⟩ := ho
  · omega
  · have hl : l.length = n := by
      rw [rowC_len Edg.len] at hlen
      exact Nat.eq_of_mul_eq_mul_right (by decide) hlen
    have hc : rowC Edg.cells l ++ cur.toList.drop (n * 3) = cur.toList := by rw [← htk, List.take_append_drop]
    refine ⟨g, cap, cur.toList.drop (n * 3), rfl, hBg, ?_, hl, hnc, hcm, ?_⟩
    · rw [hc]; simpa using hg
    · rw [hc]; simpa using hcs
theorem EBlk.own {w : World} {B g n cap : Nat} {l : List Edg} {T : List Value} (h : EBlk w B g n cap l T) : w.ownsRow B 53 3 (.slice (some ⟨g, 0, none⟩) n cap) n (rowC Edg.cells l) := by
  have hl : (rowC Edg.cells l).length = n * 3 := by rw [rowC_len Edg.len, h.len]
  refine ⟨hl, .inr ⟨g, cap, _, rfl, h.lo, h.at_, h.room, h.mx, ?_, ?_⟩⟩
  · rw [List.size_toArray]; exact h.size
  · rw [← hl]; exact List.take_left
theorem EBlk.row {w : World} {B g n cap : Nat} {l : List Edg} {T : List Value} (h : EBlk w B g n cap l T) : ERow w (some ⟨g, 0, none⟩) n cap l := by
  obtain ⟨A, c, hv, hr⟩ := Row.of_own h.own
  injection hv with e1 _ e2
  subst e1 e2
  exact hr
theorem EBlk.lt {w : World} {B g n cap : Nat} {l : List Edg} {T : List Value} (h : EBlk w B g n cap l T) : g < w.heap.size := (Array.getElem?_eq_some_iff.1 h.at_).1
theorem EBlk.later {w w' : World} {B g n cap : Nat} {l : List Edg} {T : List Value} (h : EBlk w B g n cap l T) (hb : Below w.heap.size w w') : EBlk w' B g n cap l T := ⟨h.lo, (hb.block _ h.lt).trans h.at_, h.len, h.room, h.mx, h.size⟩
/-- The cells of a block that holds edges, cut. -/
theorem ecut {l : List Edg} {T : List Value} {i : Nat} (hi : i ≤ l.length) : (rowC Edg.cells l ++ T).take (i * 3) = rowC Edg.cells (l.take i) := by
  have h1 : (rowC Edg.cells l).length = l.length * 3 := rowC_len Edg.len l
  rw [List.take_append_of_le_length (by rw [h1]; omega), rowC_take Edg.len l i hi]
theorem ecut_drop {l : List Edg} {T : List Value} {i : Nat} (hi : i ≤ l.length) : (rowC Edg.cells l ++ T).drop (i * 3) = rowC Edg.cells (l.drop i) ++ T := by
  have h1 : (rowC Edg.cells l).length = l.length * 3 := rowC_len Edg.len l
  rw [List.drop_append_of_le_length (by rw [h1]; omega), rowC_drop Edg.len l i]
section
variable {P : Program}
/-- 's[i:j]' and 's[i:j:k]' where there is room. -/
theorem run_slice_mid {t e : TypeId} (ht : P.underlying t = some (.slice e)) {sz : Nat} (hz : (P.info? e).map (·.size) = some sz) {g n c i j : Nat} {x y : Int} (hx : x = (i : Int)) (hy : y = (j : Int)) (hij : i ≤ j) (hjc : j ≤ c) (hic : i < c) (k1 k2 : IntKind) (w : World) :
    (Instr.slice t (.slice (some ⟨g, 0, none⟩) n c) (some (.int k1 x)) (some (.int k2 y)) none).run P w = .ok (.slice (some ⟨g, i * sz, none⟩) (j - i) (c - i)) w := by
  subst hx hy
  obtain ⟨i0, hi0, rfl⟩ := size_of_info hz
  have h3 : ¬ c = i := by omega
  have h4 : (⟨g, 0, none⟩ : Addr).add (i * i0.size) = ⟨g, i * i0.size, none⟩ := by rw [Addr.add_lit, Nat.zero_add]
  simp [Instr.slice, run_underlying ht, Instr.sliceBounds, Instr.sliceBound, asIntOf, hjc, hij, h3, sizeOf, typeInfo, hi0, h4]
theorem run_slice_max {t e : TypeId} (ht : P.underlying t = some (.slice e)) {sz : Nat} (hz : (P.info? e).map (·.size) = some sz) {g n c i j k : Nat} {x y z : Int} (hx : x = (i : Int)) (hy : y = (j : Int)) (hz' : z = (k : Int)) (hij : i ≤ j) (hjk : j ≤ k) (hkc : k ≤ c) (k1 k2 k3 : IntKind) :
    ∃ v, ∀ w : World, (Instr.slice t (.slice (some ⟨g, 0, none⟩) n c) (some (.int k1 x)) (some (.int k2 y)) (some (.int k3 z))).run P w = .ok v w := by
  subst hx hy hz'
  obtain ⟨i0, hi0, rfl⟩ := size_of_info hz
  refine ⟨.slice (if k = i then some ⟨g, 0, none⟩ else some ((⟨g, 0, none⟩ : Addr).add (i * i0.size))) (j - i) (k - i), fun w => ?_⟩
  simp [Instr.slice, run_underlying ht, Instr.sliceBounds, Instr.sliceBound, asIntOf, hkc, hjk, hij, sizeOf, typeInfo, hi0]
theorem run_slice_off {t e : TypeId} (ht : P.underlying t = some (.slice e)) {sz : Nat} (hz : (P.info? e).map (·.size) = some sz) {g n c i : Nat} {x : Int} (hx : x = (i : Int)) (hin : i ≤ n) (hic : i < c) (k1 : IntKind) (w : World) :
    (Instr.slice t (.slice (some ⟨g, 0, none⟩) n c) (some (.int k1 x)) none none).run P w = .ok (.slice (some ⟨g, i * sz, none⟩) (n - i) (c - i)) w := by
  rw [run_slice_from ht hz hx hin k1 w]
  unfold dropA
  rw [if_neg (by omega), Option.map_some, Addr.add_lit, Nat.zero_add]
theorem run_slice_low {t e : TypeId} (ht : P.underlying t = some (.slice e)) {sz : Nat} (hz : (P.info? e).map (·.size) = some sz) {g n c i : Nat} {x : Int} (hx : x = (i : Int)) (hic : i ≤ c) (k1 : IntKind) (w : World) :
    (Instr.slice t (.slice (some ⟨g, 0, none⟩) n c) none (some (.int k1 x)) none).run P w = .ok (.slice (some ⟨g, 0, none⟩) i c) w := by
  subst hx
  obtain ⟨i0, hi0, rfl⟩ := size_of_info hz
  have h4 : (⟨g, 0, none⟩ : Addr).add 0 = ⟨g, 0, none⟩ := by rw [Addr.add_lit]
  simp [Instr.slice, run_underlying ht, Instr.sliceBounds, Instr.sliceBound, asIntOf, hic, sizeOf, typeInfo, hi0, h4]
end
theorem edg_zero (w : World) : (zeroValue 53).run Tryz.prog w = .ok (.agg #[.int .i64 0, .int .i64 0, .int .i64 0]) w := Tryz.zeroValue53 w
theorem edg_zeros (n : Nat) : ∀ u ∈ (Builtin.zeroCells (Value.agg #[.int .i64 0, .int .i64 0, .int .i64 0]).cells n).toList, u.oneCell' = true := by
  intro u hu
  simp only [Builtin.zeroCells, Value.cells, Array.toList_map, List.mem_map] at hu
  obtain ⟨i, -, rfl⟩ := hu
  have h3 : i % 3 < 3 := Nat.mod_lt _ (by decide)
  rcases (by omega : i % 3 = 0 ∨ i % 3 = 1 ∨ i % 3 = 2) with h4 | h4 | h4 <;> simp [h4, Value.oneCell']
theorem cloneEd_nil (w : World) : Calls Tryz.prog 34 #[.slice none 0 0] w fun e w' => e = .returned (.slice none 0 0) ∧ w' = w := by
  have en := fun w a n c => Lib.run_eql_slice_nil (P := Tryz.prog) w 33 53 a n c 0 0 Tryz.underlying33
  go_enter Tryz.func34, Tryz.ntmps34
  go_wp2
  go_ret
  exact ⟨rfl, rfl⟩
set_option maxRecDepth 100000 in
set_option maxHeartbeats 4000000 in
theorem cloneEd_some (ad : Addr) (n c : Nat) (l : List Edg) (w : World) (hl : ERow w (some ad) n c l) (hn : n ≤ 100000) :
    Calls Tryz.prog 34 #[.slice (some ad) n c] w fun e w' => ∃ v, e = .returned v ∧ w'.ownsRow w.heap.size 53 3 v l.length (rowC Edg.cells l) ∧ Below w.heap.size w w' := by
  have HL := Lib.hid hl; have HLN : Hid (l.length = n) := Lib.hid (ERow.len hl)
  clear hl
  have en := fun w a n c => Lib.run_eql_slice_nil (P := Tryz.prog) w 33 53 a n c 0 0 Tryz.underlying33
  go_enter Tryz.func34, Tryz.ntmps34
  have HO : Hid ((w.alloc (.cells #[] 53)).ownsRow w.heap.size 53 3 (.slice (some ⟨w.heap.size, 0, none⟩) 0 0) 0 []) := Lib.hid ⟨rfl, .inr ⟨w.heap.size, 0, #[], rfl, Nat.le_refl _, heap_alloc_new _ _, Nat.le_refl _, Nat.zero_le _, rfl, rfl⟩⟩
  have HN := Lib.hid (one_new w (.cells #[] 53))
  have HL2 := Lib.hid (GRow.later HL.out HN.out)
  have HZ := Lib.hid HN.out.size
  obtain ⟨x1, hx1⟩ : ∃ x1, w.alloc (.cells #[] 53) = x1 := ⟨_, rfl⟩
  have HX1 := Lib.hid hx1
  rw [hx1] at HO HN HL2 HZ
  clear hx1
  go_wp2_with (at_builtin; rw [HX1.out]; go_must (refine wpList_app x1 rfl (.tmp 5) (.tmp 6) 33 33 53 rfl w.heap.size Tryz.underlying33 edg_info rfl _ 0 [] HO.out rfl _ n (rowC Edg.cells l) (Row.src HL2.out Tryz.underlying33 (rowC_ones Edg.ones l)) rfl (by unfold maxLen; omega) (by omega) HZ.out ?_); intro v1 z1 ho hb; rw [Nat.zero_add, List.nil_append, ← HLN.out] at ho; have HO2 := Lib.hid ho; have HU := Lib.hid (HN.out.trans hb); clear ho hb)
  go_ret
  exact ⟨_, rfl, HO2.out, HU.out⟩
theorem cloneEd_any (A : Option Addr) (n c : Nat) (l : List Edg) (w : World) (hl : ERow w A n c l) (hn : n ≤ 100000) :
    Calls Tryz.prog 34 #[.slice A n c] w fun e w' => ∃ v, e = .returned v ∧ w'.ownsRow w.heap.size 53 3 v l.length (rowC Edg.cells l) ∧ Below w.heap.size w w' := by
  cases A with
  | some ad => exact cloneEd_some ad n c l w hl hn
  | none =>
    obtain ⟨rfl, rfl⟩ := Row.nil hl rfl
    have h0 : l = [] := List.eq_nil_of_length_eq_zero (ERow.len hl)
    subst h0
    exact (cloneEd_nil w).mono fun e w' ⟨h1, h2⟩ => ⟨_, h1, by rw [h2]; exact World.ownsRow_nil _ _ _ _, by rw [h2]; exact Below.refl _ _⟩
set_option maxRecDepth 100000 in
set_option maxHeartbeats 4000000 in
theorem deleteEd_any (B g n cap i j : Nat) (l : List Edg) (T : List Value) (w : World) (ho : EBlk w B g n cap l T) (hB : B ≤ w.heap.size) (hij : i < j) (hj : j ≤ n) :
    Calls Tryz.prog 41 #[.slice (some ⟨g, 0, none⟩) n cap, .int .i64 i, .int .i64 j] w fun e w' => ∃ v, e = .returned v ∧ w'.ownsRow B 53 3 v (l.take i ++ l.drop j).length (rowC Edg.cells (l.take i ++ l.drop j)) ∧ Below B w w' := by
  have HO := Lib.hid ho
  have hnc := ho.room
  have hln := ho.len
  have HSRC : Hid (Src Tryz.prog 3 33 (.slice (dropA (some ⟨g, 0, none⟩) cap j 3) (n - j) (cap - j)) (n - j) (rowC Edg.cells (l.drop j)) w.drew) := Lib.hid (Row.src (Row.later (GRow.drop Edg.len ho.row j hj) (Later.drew w)) Tryz.underlying33 (rowC_ones Edg.ones _))
  have HLOW := Lib.hid ho.lo
  have HMX := Lib.hid ho.mx
  have HA : Hid (w.drew.heap[g]? = some (.cells (rowC Edg.cells l ++ T).toArray 53 (0, 0))) := Lib.hid ho.at_
  have HSZ : Hid ((rowC Edg.cells l ++ T).length = cap * 3) := Lib.hid ho.size
  clear ho
  have hne : ((i : Int) == (j : Int)) = false := beq_eq_false_iff_ne.2 (by omega)
  obtain ⟨v9, hv9⟩ := run_slice_max (P := Tryz.prog) (t := 33) Tryz.underlying33 edg_size (g := g) (n := n) (c := cap) (i := i) (j := j) (k := n) rfl rfl rfl (Nat.le_of_lt hij) hj hnc .i64 .i64 .i64
  go_enter Tryz.func41, Tryz.ntmps41
  go_wp2_with fail
  clear hne hv9
  refine wp_region_grow (by kernel_rfl) (Below B) (Below.refl B) (fun _ _ _ => Below.trans) [7] [([0, 1, 2, 3, 4, 5], 6)] (by kernel_rfl) (by kernel_rfl) (by kernel_rfl) ?_
  simp only [List.map_cons, List.map_nil, pick, List.getD_cons_zero, List.getD_cons_succ]
  have hs1 := fun w' => run_slice_low (P := Tryz.prog) (t := 33) Tryz.underlying33 edg_size (g := g) (n := n) (c := cap) (i := i) rfl (by omega) .i64 w'
  have hs2 := fun w' => run_slice_from (P := Tryz.prog) (t := 33) Tryz.underlying33 edg_size (A := some ⟨g, 0, none⟩) (n := n) (c := cap) (k := j) rfl hj .i64 w'
  generalize dropA (some ⟨g, 0, none⟩) cap j 3 = AD at *
  have HBD : Hid (Below B w w.drew) := Lib.hid (Below.refl _ _).drew
  have HBS : Hid (B ≤ w.drew.heap.size) := Lib.hid hB
  generalize w.drew = z0 at *
  refine wpGrow_cons ?_
  repeat (go_big_quiet_step (fail))
  refine wpQuiet_nil ?_
  clear hs1 hs2
  have HD : Hid ((rowC Edg.cells l ++ T).take (i * 3) ++ rowC Edg.cells (l.drop j) ++ (rowC Edg.cells l ++ T).drop ((i + (n - j)) * 3) = rowC Edg.cells (l.take i ++ l.drop j) ++ (rowC Edg.cells l ++ T).drop ((i + (n - j)) * 3)) := Lib.hid (by rw [ecut (by omega), ← rowC_app])
  have HDL : Hid ((l.take i ++ l.drop j).length = i + (n - j)) := Lib.hid (by rw [List.length_append, List.length_take, List.length_drop, hln]; omega)
  go_wp2_with (at_builtin; go_must (refine wpList_app_room z0 rfl (.tmp 22) (.tmp 25) 33 33 53 rfl Tryz.underlying33 (size := 3) edg_size g i cap (rowC Edg.cells l ++ T) HA.out HSZ.out rfl _ (n - j) (rowC Edg.cells (l.drop j)) HSRC.out rfl (by omega) ?_); intro w2 hg2 hb2; rw [HD.out] at hg2; have HG2 := Lib.hid hg2; have HB2 : Hid (Below B z0 w2) := Lib.hid (hb2.below HLOW.out HBS.out); clear hg2 hb2)
  refine pieceEnd_normal ⟨HB2.out, ?_⟩
  refine wpGrow_nil ?_
  repeat (go_big_quiet_step (fail))
  refine wpQuiet_nil ?_
  have HXL : Hid (((rowC Edg.cells l ++ T).drop ((i + (n - j)) * 3)).length = cap * 3 - (i + (n - j)) * 3) := Lib.hid (by rw [List.length_drop, HSZ.out])
  generalize (rowC Edg.cells l ++ T).drop ((i + (n - j)) * 3) = X at *
  obtain ⟨D, hD⟩ : ∃ D, l.take i ++ l.drop j = D := ⟨_, rfl⟩
  have HDD := Lib.hid hD
  rw [hD] at HDL HD HG2
  clear hD
  have hqn : i + (n - j) < n := by omega
  generalize i + (n - j) = q at *
  have hs3 := fun w' => run_slice_mid (P := Tryz.prog) (t := 33) Tryz.underlying33 edg_size (g := g) (n := q) (c := cap) (i := q) (j := n) rfl rfl (Nat.le_of_lt hqn) hnc (by omega) .i64 .i64 w'
  have hfit : (q + (n - q)) * 3 ≤ (rowC Edg.cells D ++ X).length := by
    have h1 := HDL.out; have h2 := HXL.out
    rw [List.length_append, rowC_len Edg.len, h1, h2]
    omega
  obtain ⟨w3, zs, hz, hcl, hg3, hb3⟩ := run_clear_row (P := Tryz.prog) w2 33 53 Tryz.underlying33 (size := 3) edg_zero rfl edg_zeros g q (n - q) (cap - q) (rowC Edg.cells D ++ X) HG2.out (some ⟨g, q * 3, none⟩) (fun _ => rfl) hfit
  rw [ecut (by rw [HDL.out]; exact Nat.le_refl _)] at hg3
  have HZ := Lib.hid hz; have HG3 := Lib.hid hg3; have HB3 := Lib.hid hb3
  clear hz hg3 hb3
  go_wp2_with fail
  go_ret
  have h1 := HDL.out; have h2 := HXL.out; have h3 := HZ.out
  have hd : D.take q = D := List.take_of_length_le (by omega)
  have hg3 := HG3.out
  rw [hd, List.append_assoc] at hg3
  have he : EBlk w3 B g q cap D (zs ++ (rowC Edg.cells D ++ X).drop ((q + (n - q)) * 3)) := ⟨HLOW.out, hg3, h1, by omega, HMX.out, by
    rw [List.length_append, List.length_append, List.length_drop, List.length_append, rowC_len Edg.len, h1, h2, h3]
    omega⟩
  rw [HDD.out, h1]
  exact ⟨_, rfl, he.own, (HBD.out.trans HB2.out).trans (HB3.out.below HLOW.out (Nat.le_trans HBS.out HB2.out.size))⟩
end Go.Proofs.YtnmpbjgccbnomaaGreat
