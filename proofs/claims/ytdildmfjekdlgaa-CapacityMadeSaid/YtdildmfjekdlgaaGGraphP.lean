import Derived.Test.YtdildmfjekdlgaaGWithP
import Derived.Test.YtdildmfjekdlgaaPackAC
import Derived.Test.YtdildmfjekdlgaaPackAN
import Derived.Deep.CutBlock
import Derived.Deep.DeepCutAuto
/- Graphs made out of dice. -/
namespace Go.Proofs.Ytdildmfjekdlgaa
open Go.RowKit
/-- Blocks but D below n stay. -/
structure BN (D n : Nat) (a b : World) : Prop where
  low : Below 0 a b
  keep : ∀ k, k < n → k ≠ D → b.heap[k]? = a.heap[k]?
theorem BN.refl (D n : Nat) (a : World) : BN D n a a := ⟨Below.refl _ _, fun _ _ _ => rfl⟩
theorem BN.trans {D n : Nat} {a b c : World} (h : BN D n a b) (k : BN D n b c) : BN D n a c := ⟨h.low.trans k.low, fun i hi hd => (k.keep i hi hd).trans (h.keep i hi hd)⟩
theorem BN.but {D n : Nat} {a b : World} (h : But D a b) (hn : n ≤ a.heap.size) : BN D n a b := ⟨⟨h.os, h.tape, h.output, h.size, fun _ hk => absurd hk (Nat.not_lt_zero _)⟩, fun k hk hd => h.block k (Nat.lt_of_lt_of_le hk hn) hd⟩
theorem BN.later {D n : Nat} {a b : World} (h : Below a.heap.size a b) (hn : n ≤ a.heap.size) : BN D n a b := ⟨h.mono (Nat.zero_le _), fun k hk _ => h.block k (Nat.lt_of_lt_of_le hk hn)⟩
theorem BN.row {D n g : Nat} (a : World) (cs : Array Value) (hg : n ≤ g) : BN D n a (a.setRow g cs) := ⟨below_setRow (Below.refl _ _) (Nat.zero_le _) cs, fun k hk _ => setRow_other _ _ _ _ (by omega)⟩
/-- A graph that is being made out of dice. -/
structure GrS (L D : Nat) (t : List Int) (w : World) (g : Nat) (G : Gr) (ve vg : Value) (x : World) : Prop where
  dice : ∃ k, DiceAt x L D t k
  but : But D w x
  dlt : D < w.heap.size
  glt : w.heap.size < g
  here : x.heap[g]? = some (.cells #[.int .i64 G.sz, ve, vg] 31 (0, 0))
  es : x.ownsRow (g + 1) 45 3 ve G.es.length (rowC Edg.cells G.es)
  gn : x.ownsRow (g + 1) 3 1 vg G.gn.length (intsV G.gn)
  res : x.heap[w.heap.size]? = some (.cells #[.int .i64 0, .slice none 0 0, .slice none 0 0] 31 (0, 0))
  good : Good11 G
  two : 2 ≤ G.sz
  one : G.gn.length ≤ 1
theorem GrS.lt {L D : Nat} {t : List Int} {w : World} {g : Nat} {G : Gr} {ve vg : Value} {x : World} (h : GrS L D t w g G ve vg x) : g < x.heap.size := (Array.getElem?_eq_some_iff.1 h.here).1
theorem GrS.keep {L D : Nat} {t : List Int} {w : World} {g : Nat} {G : Gr} {ve vg : Value} {x y : World} (h : GrS L D t w g G ve vg x) (hd : ∃ k, DiceAt y L D t k) (hb : But D x y) : GrS L D t w g G ve vg y where
  dice := hd
  but := h.but.trans hb
  dlt := h.dlt
  glt := h.glt
  here := (hb.block g h.lt (by have := h.dlt; have := h.glt; omega)).trans h.here
  es := own_keepL h.es fun q hq => hb.block q (own_lt h.es q hq) (by have := own_ge h.es q hq; have := h.dlt; have := h.glt; omega)
  gn := own_keepL h.gn fun q hq => hb.block q (own_lt h.gn q hq) (by have := own_ge h.gn q hq; have := h.dlt; have := h.glt; omega)
  res := (hb.block _ (Nat.lt_trans h.glt h.lt) (by have := h.dlt; omega)).trans h.res
  good := h.good
  two := h.two
  one := h.one
theorem but_of_later {D : Nat} {a b : World} (h : Below a.heap.size a b) : But D a b := ⟨h.os, h.tape, h.output, h.size, fun k hk _ => h.block k hk⟩
theorem GrS.gave {L D : Nat} {t : List Int} {w : World} {g : Nat} {G : Gr} {ve vg : Value} {x y : World} (h : GrS L D t w g G ve vg x) (hg : Gave L D t x y) : GrS L D t w g G ve vg y := h.keep hg.1 hg.2
theorem own_lit {w : World} {g : Nat} (h : g < w.heap.size) (y : Int) : (w.alloc (.cells #[.int .i64 y] 3)).ownsRow (g + 1) 3 1 (.slice (some ⟨w.heap.size, 0, none⟩) 1 1) 1 (intsV [y]) :=
  ⟨rfl, .inr ⟨w.heap.size, 1, #[.int .i64 y], rfl, h, heap_alloc_new _ _, Nat.le_refl _, by unfold maxLen; omega, rfl, rfl⟩⟩
theorem GrS.later {L D : Nat} {t : List Int} {w : World} {g : Nat} {G : Gr} {ve vg : Value} {x y : World} (h : GrS L D t w g G ve vg x) (hb : Below x.heap.size x y) : GrS L D t w g G ve vg y :=
  h.keep (by obtain ⟨k, hk⟩ := h.dice; exact ⟨k, hk.later hb⟩) (but_of_later hb)
theorem GrS.hold {L D : Nat} {t : List Int} {w : World} {g : Nat} {G : Gr} {ve vg : Value} {x : World} (h : GrS L D t w g G ve vg x) : GHold x G (.agg #[.int .i64 G.sz, ve, vg]) := GOwn.hold (B := g + 1) ⟨_, _, rfl, h.es, h.gn⟩
/-- Whatever happened to block g and behind it: the graph there is another one. -/
theorem GrS.turn {L D : Nat} {t : List Int} {w : World} {g : Nat} {G G' : Gr} {ve vg ve' vg' : Value} {x y : World} (h : GrS L D t w g G ve vg x) (hb : Below g x y) (here : y.heap[g]? = some (.cells #[.int .i64 G'.sz, ve', vg'] 31 (0, 0)))
    (es : y.ownsRow (g + 1) 45 3 ve' G'.es.length (rowC Edg.cells G'.es)) (gn : y.ownsRow (g + 1) 3 1 vg' G'.gn.length (intsV G'.gn)) (good : Good11 G') (two : 2 ≤ G'.sz) (one : G'.gn.length ≤ 1) : GrS L D t w g G' ve' vg' y where
  dice := by obtain ⟨k, hk⟩ := h.dice; exact ⟨k, hk.below hb (by have := h.dlt; have := h.glt; omega)⟩
  but := ⟨hb.os.trans h.but.os, hb.tape.trans h.but.tape, hb.output.trans h.but.output, Nat.le_trans h.but.size hb.size, fun k hk hd => (hb.block k (Nat.lt_trans hk h.glt)).trans (h.but.block k hk hd)⟩
  dlt := h.dlt
  glt := h.glt
  here := here
  es := es
  gn := gn
  res := (hb.block _ h.glt).trans h.res
  good := good
  two := two
  one := one
theorem GrS.other {L D : Nat} {t : List Int} {w : World} {g : Nat} {G : Gr} {ve vg : Value} {x : World} (h : GrS L D t w g G ve vg x) {q : Nat} (hq : g < q) (h1 : ∀ b, ve.ownBlock = some b → b ≠ q) (h2 : ∀ b, vg.ownBlock = some b → b ≠ q) (cs : Array Value) : GrS L D t w g G ve vg (x.setRow q cs) where
  dice := by obtain ⟨k, hk⟩ := h.dice; exact ⟨k, hk.below (below_setRow (Below.refl _ _) (Nat.le_refl q) cs) (by have := h.dlt; have := h.glt; omega)⟩
  but := by
    have hb : Below q x (x.setRow q cs) := below_setRow (Below.refl _ _) (Nat.le_refl q) cs
    exact ⟨hb.os.trans h.but.os, hb.tape.trans h.but.tape, hb.output.trans h.but.output, Nat.le_trans h.but.size hb.size, fun k hk hd => (hb.block k (by have := h.glt; omega)).trans (h.but.block k hk hd)⟩
  dlt := h.dlt
  glt := h.glt
  here := (setRow_other _ _ _ _ (by omega)).trans h.here
  es := own_keepL h.es fun b hb => setRow_other _ _ _ _ (h1 b hb)
  gn := own_keepL h.gn fun b hb => setRow_other _ _ _ _ (h2 b hb)
  res := (setRow_other _ _ _ _ (by have := h.glt; omega)).trans h.res
  good := h.good
  two := h.two
  one := h.one
set_option maxRecDepth 100000 in
set_option maxHeartbeats 4000000 in
theorem ggraph_g (L D : Nat) (t : List Int) (w : World) (hd : ∃ k, DiceAt w L D t k) : Calls Try.prog 10 #[.pointer (some ⟨D, 0, none⟩)] w fun e w' => ∃ v G, e = .returned v ∧ GOwn w' w.heap.size G v ∧ Good11 G ∧ 2 ≤ G.sz ∧ G.gn.length ≤ 1 ∧ Gave L D t w w' := by
  have HD := Lib.hid hd
  have hDL : D < w.heap.size := by obtain ⟨k, hk⟩ := hd; exact hk.lt
  have HDL := Lib.hid hDL
  have HN0 := Lib.hid (one_new w (.cells #[.int .i64 0, .slice none 0 0, .slice none 0 0] 31))
  have HR : Hid ((w.alloc (.cells #[.int .i64 0, .slice none 0 0, .slice none 0 0] 31)).heap[w.heap.size]? = some (.cells #[.int .i64 0, .slice none 0 0, .slice none 0 0] 31 (0, 0))) := Lib.hid (heap_alloc_new _ _)
  have HSZ0 : Hid ((w.alloc (.cells #[.int .i64 0, .slice none 0 0, .slice none 0 0] 31)).heap.size = w.heap.size + 1) := Lib.hid (by simp)
  clear hd hDL
  go_enter Try.func10, Try.ntmps10
  go_upto_region 1 with fail
  generalize w.alloc (.cells #[.int .i64 0, .slice none 0 0, .slice none 0 0] 31) = y0 at *
  replace HD : Hid (∃ k, DiceAt y0 L D t k) := Lib.hid (by obtain ⟨k, hk⟩ := HD.out; exact ⟨k, hk.later HN0.out⟩)
  go_wp2_with fail
  refine (next_g L D t 8 y0 HD.out (by omega) (by omega)).mono ?_
  rintro e w1 ⟨x, rfl, hx0, hx1, hg⟩
  have HBW : Hid (But D w w1) := Lib.hid ((but_of_later HN0.out).trans hg.2)
  replace HR := Lib.hid ((hg.2.block _ (by have := HSZ0.out; omega) (by have := HDL.out; omega)).trans HR.out)
  replace HD := Lib.hid hg.1
  have HSZ1 : Hid (w.heap.size + 1 ≤ w1.heap.size) := Lib.hid (by have h1 := hg.2.size; have h2 := HSZ0.out; omega)
  clear hg HN0 HSZ0
  go_upto_region 2 with (refine wpList_store_new rfl 31 (.tmp 3) (.tmp 10) rfl 31 _ #[.int .i64 (2 + x), .slice none 0 0, .slice none 0 0] rfl rfl gr_size rfl (by simp [Value.oneCell']) ?_)
  have hb := one_new w1 (.cells #[.int .i64 (2 + x), .slice none 0 0, .slice none 0 0] 31)
  have HGS : Hid (GrS L D t w w1.heap.size ⟨2 + x, [], []⟩ (.slice none 0 0) (.slice none 0 0) (w1.alloc (.cells #[.int .i64 (2 + x), .slice none 0 0, .slice none 0 0] 31))) := Lib.hid {
    dice := by obtain ⟨k, hk⟩ := HD.out; exact ⟨k, hk.later hb⟩
    but := HBW.out.trans (but_of_later hb)
    dlt := HDL.out
    glt := HSZ1.out
    here := heap_alloc_new _ _
    es := World.ownsRow_nil _ _ _ _
    gn := World.ownsRow_nil _ _ _ _
    res := (hb.block _ HSZ1.out).trans HR.out
    good := ⟨by show 0 ≤ 2 + x; omega, by show 2 + x ≤ 64; omega, Nat.zero_le _, rfl, fun _ h => (nomatch h), fun _ h => (nomatch h), List.Pairwise.nil, fun _ h => (nomatch h)⟩
    two := by show 2 ≤ 2 + x; omega
    one := Nat.zero_le _ }
  clear hb HBW HR HD HSZ1
  generalize w1.alloc (.cells #[.int .i64 (2 + x), .slice none 0 0, .slice none 0 0] 31) = w2 at *
  generalize w1.heap.size = g at *
  dsimp only [Act.put]
  obtain ⟨k0, hk0⟩ := HGS.out.dice
  obtain ⟨DA, dn, dc, hdd, -, -⟩ := hk0.here
  have hcd : w2.cell? ⟨D, 0, none⟩ = some (.slice DA dn dc) := (cell_of_row _ _ 0 _ _ _ hdd).trans rfl
  clear hdd hk0 k0
  go_upto_if 16 with fail
  clear hcd
  go_cut [] (fun wx => ∃ z : Int, Hid (0 ≤ z ∧ GrS L D t w g ⟨z, [], []⟩ (.slice none 0 0) (.slice none 0 0) wx))
  case first =>
    have hz1 : w2.cell? ⟨g, 0, none⟩ = some (.int .i64 (2 + x)) := (cell_of_row _ _ 0 _ _ _ HGS.out.here).trans rfl
    have hfz : w2.frozen? ⟨g, 0, none⟩ = false := by unfold World.frozen?; rw [HGS.out.here]; simp
    by_cases hn0 : dn = 0
    · have b0 : ((dn : Int) == 0) = true := by rw [hn0]; rfl
      go_wp2_with fail
      go_meet
      refine ⟨4, Lib.hid ⟨by decide, HGS.out.turn ((Below.refl _ _).setCell (p := ⟨g, 0, none⟩) (Nat.le_refl g) _) (heap_setCell_same w2 g 0 _ _ _ HGS.out.here) (World.ownsRow_nil _ _ _ _) (World.ownsRow_nil _ _ _ _) ⟨by decide, by decide, Nat.zero_le _, rfl, fun _ h => (nomatch h), fun _ h => (nomatch h), List.Pairwise.nil, fun _ h => (nomatch h)⟩ (by decide) (Nat.zero_le _)⟩⟩
    · have b0 : ((dn : Int) == 0) = false := by rw [beq_eq_false_iff_ne]; omega
      go_wp2_with fail
      go_meet
      exact ⟨2 + x, Lib.hid ⟨by omega, HGS.out⟩⟩
  case rest =>
    obtain ⟨z, HZ⟩ := hcut
    clear HGS
    have HGS := Lib.hid HZ.out.2
    clear HZ hx0 hx1
    go_wp2_with fail
    refine (one_g L D t 8 wc HGS.out.dice (by omega) (by omega)).mono ?_
    rintro e w3 ⟨bb, rfl, hg⟩
    replace HGS := Lib.hid (HGS.out.gave hg)
    clear hg
    go_upto_if 19 with fail
    go_cut [] (fun wx => ∃ G ve vg, Hid (GrS L D t w g G ve vg wx))
    case first =>
      cases bb
      · go_wp2_with fail
        go_meet
        exact ⟨_, _, _, HGS⟩
      · have hz0 : w3.cell? ⟨g, 0, none⟩ = some (.int .i64 z) := (cell_of_row _ _ 0 _ _ _ HGS.out.here).trans rfl
        go_wp2_with fail
        refine (next_g L D t z w3 HGS.out.dice (by have := HGS.out.two; simp only at this; omega) (by have := HGS.out.good.hi; simp only at this; omega)).mono ?_
        rintro e w4 ⟨y, rfl, hy0, hy1, hg⟩
        replace HGS := Lib.hid (HGS.out.gave hg)
        clear hg hz0
        have hgl := HGS.out.lt
        have hz2 : (w4.alloc (.cells #[.int .i64 y] 3)).cell? ⟨g, 2, none⟩ = some (.slice none 0 0) := (cell_of_row _ _ 2 _ _ _ ((Below.heap_alloc _ _ _ hgl).trans HGS.out.here)).trans rfl
        have hfz : (w4.alloc (.cells #[.int .i64 y] 3)).frozen? ⟨g, 2, none⟩ = false := by unfold World.frozen?; rw [Below.heap_alloc _ _ _ hgl, HGS.out.here]; simp
        go_wp2_with fail
        go_meet
        have hsu : (w4.setCell ⟨g, 2, none⟩ (.slice (some ⟨w4.heap.size, 0, none⟩) 1 1)).heap.size = w4.heap.size := World.size_setCell _ _ _
        refine ⟨⟨z, [], [y]⟩, .slice none 0 0, .slice (some ⟨w4.heap.size, 0, none⟩) 1 1, Lib.hid (HGS.out.turn (((Below.refl _ _).setCell (p := ⟨g, 2, none⟩) (Nat.le_refl g) _).trans ((one_new _ _).mono (by rw [hsu]; exact Nat.le_of_lt hgl))) ((Below.heap_alloc _ _ _ (by rw [hsu]; exact hgl)).trans (heap_setCell_same w4 g 2 _ _ _ HGS.out.here)) (World.ownsRow_nil _ _ _ _) ?_ ?_ HGS.out.two (Nat.le_refl 1))⟩
        · have h := own_lit (w := w4.setCell ⟨g, 2, none⟩ (.slice (some ⟨w4.heap.size, 0, none⟩) 1 1)) (g := g) (by rw [hsu]; exact hgl) y
          rw [hsu] at h
          exact h
        · exact ⟨HGS.out.good.lo, HGS.out.good.hi, Nat.zero_le _, setB_yes fun i hi => (by
            have h0 : i = 0 := by simpa using hi
            subst h0
            show okSet [y] z 0 = true
            unfold okSet
            rw [decide_eq_true (by simpa using hy0), decide_eq_true (by simpa using hy1)]; rfl), fun _ h => (nomatch h), fun _ h => (nomatch h), List.Pairwise.nil, fun _ h => (nomatch h)⟩
    case rest =>
      obtain ⟨G0, ve0, vg0, HGS0⟩ := hcut
      clear HGS
      go_wp2_with fail
      refine (next_g L D t 23 wc HGS0.out.dice (by omega) (by omega)).mono ?_
      rintro e w6 ⟨nn, rfl, hn0, hn1, hg⟩
      replace HGS0 := Lib.hid (HGS0.out.gave hg)
      clear hg
      obtain ⟨N, hN⟩ : ∃ N : Nat, nn = N := ⟨nn.toNat, by omega⟩
      subst hN
      have hN : N ≤ 22 := by omega
      clear hn0 hn1
      go_wp2_with fail
      go_loopw [4] (fun i wr => ∃ (j : Nat) (G : Gr) (ve vg : Value), j ≤ 22 ∧ i = .int .i64 j ∧ Hid (GrS L D t w g G ve vg wr)) (fun i _ => (intOf i).toNat)
      case atStart => exact ⟨N, G0, ve0, vg0, hN, rfl, HGS0⟩
      case round =>
        clear HGS0
        obtain ⟨j, G, ve, vg, hj, rfl, HGS⟩ := hrel
        by_cases hlt : 0 < j
        · have hlt2 : (0 : Int) < (j : Int) := by omega
          have b0 : decide ((j : Int) > 0) = true := decide_eq_true hlt2
          go_upto_region 9 with fail
          clear b0
          obtain ⟨Ae, ce, hve, -⟩ := Row.of_own HGS.out.es
          obtain ⟨Ag, cg, hvg, -⟩ := Row.of_own HGS.out.gn
          obtain ⟨n0, hn0⟩ : ∃ n0, wr.drew.heap.size = n0 := ⟨_, rfl⟩
          refine wp_region_flow (by kernel_rfl) (BN D n0) ?_
          have HS : Hid (GrS L D t w g G ve vg wr.drew) := Lib.hid (HGS.out.later (Below.refl _ _).drew)
          have HVE : Hid (∀ b, ve.ownBlock = some b → b < n0) := Lib.hid fun b hb => by rw [← hn0]; exact own_lt HGS.out.es b hb
          have HVG : Hid (∀ b, vg.ownBlock = some b → b < n0) := Lib.hid fun b hb => by rw [← hn0]; exact own_lt HGS.out.gn b hb
          have HN : Hid (n0 ≤ wr.drew.heap.size) := Lib.hid (Nat.le_of_eq hn0.symm)
          have HGN : Hid (g < n0) := Lib.hid (by rw [← hn0]; exact HGS.out.lt)
          have HDG : Hid (D < g) := Lib.hid (Nat.lt_trans HGS.out.dlt HGS.out.glt)
          clear HGS hn0
          generalize wr.drew = z0 at *
          have hgn := HGN.out; have hdg := HDG.out
          have HLA : Hid (G.es.length ≤ 100000) := Lib.hid (Nat.le_trans HS.out.good.len (by decide))
          have HLB : Hid (G.gn.length ≤ 100000) := Lib.hid (Nat.le_trans HS.out.one (by decide))
          have hs2 := HS.out.two
          have hs64 := HS.out.good.hi
          have hf0 : ∀ x, (fut (BN D n0) z0 x).cell? ⟨g, 0, none⟩ = some (.int .i64 G.sz) := fun x => (cell_of_row _ _ 0 _ _ _ (((fut_ok (BN.refl D n0) z0 x).keep g hgn (by omega)).trans HS.out.here)).trans rfl
          have hfg : ∀ x, (loadVar 31 ⟨g, 0, none⟩).run Try.prog (fut (BN D n0) z0 x) = .ok (.agg #[.int .i64 G.sz, ve, vg]) (fut (BN D n0) z0 x) := fun x => run_loadVar_row _ g 31 31 #[.int .i64 G.sz, ve, vg] (0, 0) _ (((fut_ok (BN.refl D n0) z0 x).keep g hgn (by omega)).trans HS.out.here) Try.underlying31 rfl gr_size
          refine flow_reads (F := BN D n0) (fun _ => BN.refl _ _ _) (by kernel_rfl) [0, 1, 2, 3, 5, 6, 7, 9] (fuel := 12) (by kernel_rfl) ?_
          simp only [List.map_cons, List.map_nil, pick, List.getD_cons_zero, List.getD_cons_succ]
          repeat (first | (refine wpQuiet_load rfl 31 (.tmp 3) rfl ⟨g, 0, none⟩ rfl (.agg #[.int .i64 G.sz, ve, vg]) (fun w' h => by obtain ⟨x, rfl⟩ := h; exact hfg x) ?_; simp only [Act.put, List.setIfInBounds_toArray, List.set_cons_succ, List.set_cons_zero]) | go_big_quiet_step (fail))
          refine wpQuiet_nil ?_
          clear hf0 hfg
          refine flow_two (F := BN D n0) (fun _ _ _ => BN.trans) (fun _ => BN.refl _ _ _) 4 17 (by kernel_rfl) (by decide) (by decide) ?_ ?_ <;> simp only [pick, List.getD_cons_zero, List.getD_cons_succ]
          · skip
            go_wp2_with fail
            refine (next_g L D t G.sz z0 HS.out.dice (by omega) (by omega)).mono ?_
            rintro e z1 ⟨v0, rfl, hv00, hv01, hg⟩
            have HF : Hid (BN D n0 z0 z1) := Lib.hid (BN.but hg.2 HN.out)
            replace HN := Lib.hid (Nat.le_trans HN.out hg.2.size)
            replace HS := Lib.hid (HS.out.gave hg)
            clear hg
            go_wp2_with fail
            refine pieceEnd_normal ⟨HF.out, ?_⟩
            clear HF
            refine flow_two (F := BN D n0) (fun _ _ _ => BN.trans) (fun _ => BN.refl _ _ _) 8 17 (by kernel_rfl) (by decide) (by decide) ?_ ?_ <;> simp only [pick, List.getD_cons_zero, List.getD_cons_succ]
            · skip
              go_wp2_with fail
              refine (next_g L D t G.sz z1 HS.out.dice (by omega) (by omega)).mono ?_
              rintro e z2 ⟨v1, rfl, hv10, hv11, hg⟩
              have HF : Hid (BN D n0 z1 z2) := Lib.hid (BN.but hg.2 HN.out)
              replace HN := Lib.hid (Nat.le_trans HN.out hg.2.size)
              replace HS := Lib.hid (HS.out.gave hg)
              clear hg
              go_wp2_with fail
              refine pieceEnd_normal ⟨HF.out, ?_⟩
              clear HF
              refine flow_two (F := BN D n0) (fun _ _ _ => BN.trans) (fun _ => BN.refl _ _ _) 10 17 (by kernel_rfl) (by decide) (by decide) ?_ ?_ <;> simp only [pick, List.getD_cons_zero, List.getD_cons_succ]
              · skip
                go_wp2_with fail
                refine (next_g L D t 3 z2 HS.out.dice (by omega) (by omega)).mono ?_
                rintro e z3 ⟨v2, rfl, hv20, hv21, hg⟩
                have HF : Hid (BN D n0 z2 z3) := Lib.hid (BN.but hg.2 HN.out)
                replace HN := Lib.hid (Nat.le_trans HN.out hg.2.size)
                replace HS := Lib.hid (HS.out.gave hg)
                clear hg
                go_wp2_with fail
                refine pieceEnd_normal ⟨HF.out, ?_⟩
                clear HF
                refine flow_reads (F := BN D n0) (fun _ => BN.refl _ _ _) (by kernel_rfl) [11] (fuel := 8) (by kernel_rfl) ?_
                simp only [List.map_cons, List.map_nil, pick, List.getD_cons_zero, List.getD_cons_succ]
                repeat (go_big_quiet_step (fail))
                refine wpQuiet_nil ?_
                refine flow_val (F := BN D n0) (fun _ => BN.refl _ _ _) (by kernel_rfl) 12 (by kernel_rfl) ?_
                simp only [pick, List.getD_cons_zero, List.getD_cons_succ]
                repeat (go_big_quiet_step (fail))
                refine wpQuiet_nil ?_
                refine flow_two (F := BN D n0) (fun _ _ _ => BN.trans) (fun _ => BN.refl _ _ _) 13 17 (by kernel_rfl) (by decide) (by decide) ?_ ?_ <;> simp only [pick, List.getD_cons_zero, List.getD_cons_succ]
                · skip
                  have HWC : Hid (Calls Try.prog 18 #[.agg #[.int .i64 G.sz, .slice Ae G.es.length ce, .slice Ag G.gn.length cg], .agg #[.int .i64 v0, .int .i64 v1, .int .i64 (1 + v2)]] z3 (GivesGOE z3 (withG G ⟨v0, v1, 1 + v2⟩))) := Lib.hid (by
                    have h := gwith_any G _ ⟨v0, v1, 1 + v2⟩ z3 HS.out.hold HLA.out HLB.out
                    rw [hve, hvg] at h
                    exact h)
                  have HRW : Hid ((withG G ⟨v0, v1, 1 + v2⟩).2 = 0 → Good11 (withG G ⟨v0, v1, 1 + v2⟩).1 ∧ (withG G ⟨v0, v1, 1 + v2⟩).1.sz = G.sz ∧ (withG G ⟨v0, v1, 1 + v2⟩).1.gn = G.gn) := Lib.hid fun h => by
                    obtain ⟨-, h2, h3, -⟩ := with_good h
                    exact ⟨h2, by rw [h3], by rw [h3]⟩
                  generalize withG G ⟨v0, v1, 1 + v2⟩ = RW at *
                  go_wp2_with fail
                  refine HWC.out.mono ?_
                  clear HWC
                  rintro e z4 ⟨vv, rfl, ⟨e5, w5, rfl, ho1, ho2⟩, hb⟩
                  have HF : Hid (BN D n0 z3 z4) := Lib.hid (BN.later hb HN.out)
                  obtain ⟨A5, c5, rfl, -⟩ := Row.of_own ho1
                  obtain ⟨B5, k5, rfl, -⟩ := Row.of_own ho2
                  have HO1 := Lib.hid (own_base ho1 (show g + 1 ≤ z3.heap.size from HS.out.lt))
                  have HO2 := Lib.hid (own_base ho2 (show g + 1 ≤ z3.heap.size from HS.out.lt))
                  replace HN := Lib.hid (Nat.le_trans HN.out hb.size)
                  replace HS := Lib.hid (HS.out.later hb)
                  clear hb ho1 ho2
                  go_wp2_with fail
                  refine pieceEnd_normal ⟨HF.out, ?_⟩
                  clear HF
                  refine flow_reads (F := BN D n0) (fun _ => BN.refl _ _ _) (by kernel_rfl) [14, 15, 16] (fuel := 3) (by kernel_rfl) ?_
                  simp only [List.map_cons, List.map_nil, pick, List.getD_cons_zero, List.getD_cons_succ]
                  repeat (go_big_quiet_step (fail))
                  refine wpQuiet_nil ?_
                  refine flow_one (F := BN D n0) (fun _ _ _ => BN.trans) (fun _ => BN.refl _ _ _) 17 (by kernel_rfl) (by decide) ?_
                  simp only [pick, List.getD_cons_zero, List.getD_cons_succ]
                  go_wp2_with fail
                  have hb := one_new z4 (.cells #[.int .i64 0, .slice none 0 0, .slice none 0 0] 31)
                  refine pieceEnd_normal ⟨BN.later hb HN.out, ?_⟩
                  have HA : Hid ((z4.alloc (.cells #[.int .i64 0, .slice none 0 0, .slice none 0 0] 31)).heap[z4.heap.size]? = some (.cells #[.int .i64 0, .slice none 0 0, .slice none 0 0] 31 (0, 0))) := Lib.hid (heap_alloc_new _ _)
                  have hg5 : n0 ≤ z4.heap.size := HN.out
                  replace HS := Lib.hid (HS.out.later hb)
                  replace HN := Lib.hid (Nat.le_trans HN.out hb.size)
                  clear hb
                  have HX1 : Hid (∀ q, (Value.slice A5 RW.1.es.length c5).ownBlock = some q → q ≠ z4.heap.size) := Lib.hid fun q hq => Nat.ne_of_lt (own_lt HO1.out q hq)
                  have HX2 : Hid (∀ q, (Value.slice B5 RW.1.gn.length k5).ownBlock = some q → q ≠ z4.heap.size) := Lib.hid fun q hq => Nat.ne_of_lt (own_lt HO2.out q hq)
                  replace HO1 := Lib.hid (own_later HO1.out (one_new z4 (.cells #[.int .i64 0, .slice none 0 0, .slice none 0 0] 31)))
                  replace HO2 := Lib.hid (own_later HO2.out (one_new z4 (.cells #[.int .i64 0, .slice none 0 0, .slice none 0 0] 31)))
                  generalize z4.alloc (.cells #[.int .i64 0, .slice none 0 0, .slice none 0 0] 31) = z5 at *
                  generalize z4.heap.size = g5 at *
                  refine flow_one (F := BN D n0) (fun _ _ _ => BN.trans) (fun _ => BN.refl _ _ _) 18 (by kernel_rfl) (by decide) ?_
                  simp only [pick, List.getD_cons_zero, List.getD_cons_succ]
                  go_wp2_with (refine wpList_store_row rfl 31 (.tmp 5) (.tmp 47) rfl g5 #[.int .i64 RW.1.sz, .slice A5 RW.1.es.length c5, .slice B5 RW.1.gn.length k5] rfl rfl 31 _ HA.out gr_size rfl (by simp [Value.oneCell']) ?_)
                  refine pieceEnd_normal ⟨BN.row _ _ hg5, ?_⟩
                  have HA5 := Lib.hid (setRow_heap z5 g5 _ #[.int .i64 RW.1.sz, .slice A5 RW.1.es.length c5, .slice B5 RW.1.gn.length k5] _ _ HA.out)
                  replace HO1 := Lib.hid (own_keepL HO1.out fun q hq => setRow_other z5 g5 q #[.int .i64 RW.1.sz, .slice A5 RW.1.es.length c5, .slice B5 RW.1.gn.length k5] (HX1.out q hq))
                  replace HO2 := Lib.hid (own_keepL HO2.out fun q hq => setRow_other z5 g5 q #[.int .i64 RW.1.sz, .slice A5 RW.1.es.length c5, .slice B5 RW.1.gn.length k5] (HX2.out q hq))
                  replace HS := Lib.hid (HS.out.other (q := g5) (by omega) (fun b hb => by have := HVE.out b hb; omega) (fun b hb => by have := HVG.out b hb; omega) #[.int .i64 RW.1.sz, .slice A5 RW.1.es.length c5, .slice B5 RW.1.gn.length k5])
                  clear HA HX1 HX2 HN
                  generalize z5.setRow g5 #[.int .i64 RW.1.sz, .slice A5 RW.1.es.length c5, .slice B5 RW.1.gn.length k5] = zz at *
                  refine flow_reads (F := BN D n0) (fun _ => BN.refl _ _ _) (by kernel_rfl) [19] (fuel := 0) (by kernel_rfl) ?_
                  simp only [List.map_cons, List.map_nil, pick, List.getD_cons_zero, List.getD_cons_succ]
                  repeat (go_big_quiet_step (fail))
                  refine wpQuiet_nil ?_
                  refine flow_done (by kernel_rfl) ?_
                  by_cases her : RW.2 = 0
                  · have b0 : (RW.2 == 0) = true := by rw [her]; rfl
                    obtain ⟨hgd, hsz, hgn2⟩ := HRW.out her
                    have HT := Lib.hid (HS.out.turn (G' := RW.1) (below_setRow (Below.refl _ _) (Nat.le_refl g) #[.int .i64 RW.1.sz, .slice A5 RW.1.es.length c5, .slice B5 RW.1.gn.length k5]) (setRow_heap zz g _ #[.int .i64 RW.1.sz, .slice A5 RW.1.es.length c5, .slice B5 RW.1.gn.length k5] _ _ HS.out.here) (own_keepL HO1.out fun q hq => setRow_other _ _ _ _ (by have := own_ge HO1.out q hq; omega)) (own_keepL HO2.out fun q hq => setRow_other _ _ _ _ (by have := own_ge HO2.out q hq; omega)) hgd (by rw [hsz]; exact HS.out.two) (by rw [hgn2]; exact HS.out.one))
                    clear her hgd hsz hgn2 HRW
                    go_wp2_with (first | (refine wpList_load_row rfl 31 (.tmp 5) rfl g5 rfl 31 #[.int .i64 RW.1.sz, .slice A5 RW.1.es.length c5, .slice B5 RW.1.gn.length k5] (0, 0) _ HA5.out Try.underlying31 rfl gr_size ?_) | (refine wpList_store_row rfl 31 (.tmp 3) (.tmp 51) rfl g #[.int .i64 RW.1.sz, .slice A5 RW.1.es.length c5, .slice B5 RW.1.gn.length k5] rfl rfl 31 _ HS.out.here gr_size rfl (by simp [Value.oneCell']) ?_))
                    exact ⟨⟨j - 1, RW.1, _, _, by omega, by go_num, HT⟩, by simp [intOf]; omega⟩
                  · have b0 : (RW.2 == 0) = false := by rw [beq_eq_false_iff_ne]; exact her
                    clear her HRW
                    go_wp2_with fail
                    exact ⟨⟨j - 1, G, ve, vg, by omega, by go_num, HS⟩, by simp [intOf]; omega⟩
                · skip
                  go_wp2_with fail
                  have hb := one_new z3 (.cells #[.int .i64 0, .slice none 0 0, .slice none 0 0] 31)
                  refine pieceEnd_normal ⟨BN.later hb HN.out, ?_⟩
                  have HA : Hid ((z3.alloc (.cells #[.int .i64 0, .slice none 0 0, .slice none 0 0] 31)).heap[z3.heap.size]? = some (.cells #[.int .i64 0, .slice none 0 0, .slice none 0 0] 31 (0, 0))) := Lib.hid (heap_alloc_new _ _)
                  have hg5 : n0 ≤ z3.heap.size := HN.out
                  replace HS := Lib.hid (HS.out.later hb)
                  replace HN := Lib.hid (Nat.le_trans HN.out hb.size)
                  clear hb
                  generalize z3.alloc (.cells #[.int .i64 0, .slice none 0 0, .slice none 0 0] 31) = z6 at *
                  generalize z3.heap.size = g5 at *
                  refine flow_one (F := BN D n0) (fun _ _ _ => BN.trans) (fun _ => BN.refl _ _ _) 13 (by kernel_rfl) (by decide) ?_
                  simp only [pick, List.getD_cons_zero, List.getD_cons_succ]
                  have HWC : Hid (Calls Try.prog 18 #[.agg #[.int .i64 G.sz, .slice Ae G.es.length ce, .slice Ag G.gn.length cg], .agg #[.int .i64 v0, .int .i64 v1, .int .i64 (1 + v2)]] z6 (GivesGOE z6 (withG G ⟨v0, v1, 1 + v2⟩))) := Lib.hid (by
                    have h := gwith_any G _ ⟨v0, v1, 1 + v2⟩ z6 HS.out.hold HLA.out HLB.out
                    rw [hve, hvg] at h
                    exact h)
                  have HRW : Hid ((withG G ⟨v0, v1, 1 + v2⟩).2 = 0 → Good11 (withG G ⟨v0, v1, 1 + v2⟩).1 ∧ (withG G ⟨v0, v1, 1 + v2⟩).1.sz = G.sz ∧ (withG G ⟨v0, v1, 1 + v2⟩).1.gn = G.gn) := Lib.hid fun h => by
                    obtain ⟨-, h2, h3, -⟩ := with_good h
                    exact ⟨h2, by rw [h3], by rw [h3]⟩
                  generalize withG G ⟨v0, v1, 1 + v2⟩ = RW at *
                  go_wp2_with fail
                  refine HWC.out.mono ?_
                  clear HWC
                  rintro e z7 ⟨vv, rfl, ⟨e5, w5, rfl, ho1, ho2⟩, hb⟩
                  have HF : Hid (BN D n0 z6 z7) := Lib.hid (BN.later hb HN.out)
                  obtain ⟨A5, c5, rfl, -⟩ := Row.of_own ho1
                  obtain ⟨B5, k5, rfl, -⟩ := Row.of_own ho2
                  have HO1 := Lib.hid (own_base ho1 (show g + 1 ≤ z6.heap.size from HS.out.lt))
                  have HO2 := Lib.hid (own_base ho2 (show g + 1 ≤ z6.heap.size from HS.out.lt))
                  replace HN := Lib.hid (Nat.le_trans HN.out hb.size)
                  have hg5l : g5 < z6.heap.size := (Array.getElem?_eq_some_iff.1 HA.out).1
                  have HX1 : Hid (∀ q, (Value.slice A5 RW.1.es.length c5).ownBlock = some q → q ≠ g5) := Lib.hid fun q hq => by have := own_ge ho1 q hq; omega
                  have HX2 : Hid (∀ q, (Value.slice B5 RW.1.gn.length k5).ownBlock = some q → q ≠ g5) := Lib.hid fun q hq => by have := own_ge ho2 q hq; omega
                  replace HA : Hid (z7.heap[g5]? = some (.cells #[.int .i64 0, .slice none 0 0, .slice none 0 0] 31 (0, 0))) := Lib.hid ((hb.block g5 hg5l).trans HA.out)
                  clear hg5l
                  replace HS := Lib.hid (HS.out.later hb)
                  clear hb ho1 ho2
                  go_wp2_with fail
                  refine pieceEnd_normal ⟨HF.out, ?_⟩
                  clear HF
                  refine flow_reads (F := BN D n0) (fun _ => BN.refl _ _ _) (by kernel_rfl) [14, 15, 16] (fuel := 2) (by kernel_rfl) ?_
                  simp only [List.map_cons, List.map_nil, pick, List.getD_cons_zero, List.getD_cons_succ]
                  repeat (go_big_quiet_step (fail))
                  refine wpQuiet_nil ?_
                  refine flow_one (F := BN D n0) (fun _ _ _ => BN.trans) (fun _ => BN.refl _ _ _) 18 (by kernel_rfl) (by decide) ?_
                  simp only [pick, List.getD_cons_zero, List.getD_cons_succ]
                  go_wp2_with (refine wpList_store_row rfl 31 (.tmp 5) (.tmp 47) rfl g5 #[.int .i64 RW.1.sz, .slice A5 RW.1.es.length c5, .slice B5 RW.1.gn.length k5] rfl rfl 31 _ HA.out gr_size rfl (by simp [Value.oneCell']) ?_)
                  refine pieceEnd_normal ⟨BN.row _ _ hg5, ?_⟩
                  have HA5 := Lib.hid (setRow_heap z7 g5 _ #[.int .i64 RW.1.sz, .slice A5 RW.1.es.length c5, .slice B5 RW.1.gn.length k5] _ _ HA.out)
                  replace HO1 := Lib.hid (own_keepL HO1.out fun q hq => setRow_other z7 g5 q #[.int .i64 RW.1.sz, .slice A5 RW.1.es.length c5, .slice B5 RW.1.gn.length k5] (HX1.out q hq))
                  replace HO2 := Lib.hid (own_keepL HO2.out fun q hq => setRow_other z7 g5 q #[.int .i64 RW.1.sz, .slice A5 RW.1.es.length c5, .slice B5 RW.1.gn.length k5] (HX2.out q hq))
                  replace HS := Lib.hid (HS.out.other (q := g5) (by omega) (fun b hb => by have := HVE.out b hb; omega) (fun b hb => by have := HVG.out b hb; omega) #[.int .i64 RW.1.sz, .slice A5 RW.1.es.length c5, .slice B5 RW.1.gn.length k5])
                  clear HA HX1 HX2 HN
                  generalize z7.setRow g5 #[.int .i64 RW.1.sz, .slice A5 RW.1.es.length c5, .slice B5 RW.1.gn.length k5] = zz at *
                  refine flow_reads (F := BN D n0) (fun _ => BN.refl _ _ _) (by kernel_rfl) [19] (fuel := 0) (by kernel_rfl) ?_
                  simp only [List.map_cons, List.map_nil, pick, List.getD_cons_zero, List.getD_cons_succ]
                  repeat (go_big_quiet_step (fail))
                  refine wpQuiet_nil ?_
                  refine flow_done (by kernel_rfl) ?_
                  by_cases her : RW.2 = 0
                  · have b0 : (RW.2 == 0) = true := by rw [her]; rfl
                    obtain ⟨hgd, hsz, hgn2⟩ := HRW.out her
                    have HT := Lib.hid (HS.out.turn (G' := RW.1) (below_setRow (Below.refl _ _) (Nat.le_refl g) #[.int .i64 RW.1.sz, .slice A5 RW.1.es.length c5, .slice B5 RW.1.gn.length k5]) (setRow_heap zz g _ #[.int .i64 RW.1.sz, .slice A5 RW.1.es.length c5, .slice B5 RW.1.gn.length k5] _ _ HS.out.here) (own_keepL HO1.out fun q hq => setRow_other _ _ _ _ (by have := own_ge HO1.out q hq; omega)) (own_keepL HO2.out fun q hq => setRow_other _ _ _ _ (by have := own_ge HO2.out q hq; omega)) hgd (by rw [hsz]; exact HS.out.two) (by rw [hgn2]; exact HS.out.one))
                    clear her hgd hsz hgn2 HRW
                    go_wp2_with (first | (refine wpList_load_row rfl 31 (.tmp 5) rfl g5 rfl 31 #[.int .i64 RW.1.sz, .slice A5 RW.1.es.length c5, .slice B5 RW.1.gn.length k5] (0, 0) _ HA5.out Try.underlying31 rfl gr_size ?_) | (refine wpList_store_row rfl 31 (.tmp 3) (.tmp 51) rfl g #[.int .i64 RW.1.sz, .slice A5 RW.1.es.length c5, .slice B5 RW.1.gn.length k5] rfl rfl 31 _ HS.out.here gr_size rfl (by simp [Value.oneCell']) ?_))
                    exact ⟨⟨j - 1, RW.1, _, _, by omega, by go_num, HT⟩, by simp [intOf]; omega⟩
                  · have b0 : (RW.2 == 0) = false := by rw [beq_eq_false_iff_ne]; exact her
                    clear her HRW
                    go_wp2_with fail
                    exact ⟨⟨j - 1, G, ve, vg, by omega, by go_num, HS⟩, by simp [intOf]; omega⟩
              · skip
                go_wp2_with fail
                have hb := one_new z2 (.cells #[.int .i64 0, .slice none 0 0, .slice none 0 0] 31)
                refine pieceEnd_normal ⟨BN.later hb HN.out, ?_⟩
                have HA : Hid ((z2.alloc (.cells #[.int .i64 0, .slice none 0 0, .slice none 0 0] 31)).heap[z2.heap.size]? = some (.cells #[.int .i64 0, .slice none 0 0, .slice none 0 0] 31 (0, 0))) := Lib.hid (heap_alloc_new _ _)
                have hg5 : n0 ≤ z2.heap.size := HN.out
                replace HS := Lib.hid (HS.out.later hb)
                replace HN := Lib.hid (Nat.le_trans HN.out hb.size)
                clear hb
                generalize z2.alloc (.cells #[.int .i64 0, .slice none 0 0, .slice none 0 0] 31) = z8 at *
                generalize z2.heap.size = g5 at *
                refine flow_one (F := BN D n0) (fun _ _ _ => BN.trans) (fun _ => BN.refl _ _ _) 10 (by kernel_rfl) (by decide) ?_
                simp only [pick, List.getD_cons_zero, List.getD_cons_succ]
                go_wp2_with fail
                refine (next_g L D t 3 z8 HS.out.dice (by omega) (by omega)).mono ?_
                rintro e z9 ⟨v2, rfl, hv20, hv21, hg⟩
                have HF : Hid (BN D n0 z8 z9) := Lib.hid (BN.but hg.2 HN.out)
                replace HN := Lib.hid (Nat.le_trans HN.out hg.2.size)
                replace HA : Hid (z9.heap[g5]? = some (.cells #[.int .i64 0, .slice none 0 0, .slice none 0 0] 31 (0, 0))) := Lib.hid ((hg.2.block g5 (Array.getElem?_eq_some_iff.1 HA.out).1 (by omega)).trans HA.out)
                replace HS := Lib.hid (HS.out.gave hg)
                clear hg
                go_wp2_with fail
                refine pieceEnd_normal ⟨HF.out, ?_⟩
                clear HF
                refine flow_reads (F := BN D n0) (fun _ => BN.refl _ _ _) (by kernel_rfl) [11] (fuel := 7) (by kernel_rfl) ?_
                simp only [List.map_cons, List.map_nil, pick, List.getD_cons_zero, List.getD_cons_succ]
                repeat (go_big_quiet_step (fail))
                refine wpQuiet_nil ?_
                refine flow_val (F := BN D n0) (fun _ => BN.refl _ _ _) (by kernel_rfl) 12 (by kernel_rfl) ?_
                simp only [pick, List.getD_cons_zero, List.getD_cons_succ]
                repeat (go_big_quiet_step (fail))
                refine wpQuiet_nil ?_
                refine flow_one (F := BN D n0) (fun _ _ _ => BN.trans) (fun _ => BN.refl _ _ _) 13 (by kernel_rfl) (by decide) ?_
                simp only [pick, List.getD_cons_zero, List.getD_cons_succ]
                have HWC : Hid (Calls Try.prog 18 #[.agg #[.int .i64 G.sz, .slice Ae G.es.length ce, .slice Ag G.gn.length cg], .agg #[.int .i64 v0, .int .i64 v1, .int .i64 (1 + v2)]] z9 (GivesGOE z9 (withG G ⟨v0, v1, 1 + v2⟩))) := Lib.hid (by
                  have h := gwith_any G _ ⟨v0, v1, 1 + v2⟩ z9 HS.out.hold HLA.out HLB.out
                  rw [hve, hvg] at h
                  exact h)
                have HRW : Hid ((withG G ⟨v0, v1, 1 + v2⟩).2 = 0 → Good11 (withG G ⟨v0, v1, 1 + v2⟩).1 ∧ (withG G ⟨v0, v1, 1 + v2⟩).1.sz = G.sz ∧ (withG G ⟨v0, v1, 1 + v2⟩).1.gn = G.gn) := Lib.hid fun h => by
                  obtain ⟨-, h2, h3, -⟩ := with_good h
                  exact ⟨h2, by rw [h3], by rw [h3]⟩
                generalize withG G ⟨v0, v1, 1 + v2⟩ = RW at *
                go_wp2_with fail
                refine HWC.out.mono ?_
                clear HWC
                rintro e z10 ⟨vv, rfl, ⟨e5, w5, rfl, ho1, ho2⟩, hb⟩
                have HF : Hid (BN D n0 z9 z10) := Lib.hid (BN.later hb HN.out)
                obtain ⟨A5, c5, rfl, -⟩ := Row.of_own ho1
                obtain ⟨B5, k5, rfl, -⟩ := Row.of_own ho2
                have HO1 := Lib.hid (own_base ho1 (show g + 1 ≤ z9.heap.size from HS.out.lt))
                have HO2 := Lib.hid (own_base ho2 (show g + 1 ≤ z9.heap.size from HS.out.lt))
                replace HN := Lib.hid (Nat.le_trans HN.out hb.size)
                have hg5l : g5 < z9.heap.size := (Array.getElem?_eq_some_iff.1 HA.out).1
                have HX1 : Hid (∀ q, (Value.slice A5 RW.1.es.length c5).ownBlock = some q → q ≠ g5) := Lib.hid fun q hq => by have := own_ge ho1 q hq; omega
                have HX2 : Hid (∀ q, (Value.slice B5 RW.1.gn.length k5).ownBlock = some q → q ≠ g5) := Lib.hid fun q hq => by have := own_ge ho2 q hq; omega
                replace HA : Hid (z10.heap[g5]? = some (.cells #[.int .i64 0, .slice none 0 0, .slice none 0 0] 31 (0, 0))) := Lib.hid ((hb.block g5 hg5l).trans HA.out)
                clear hg5l
                replace HS := Lib.hid (HS.out.later hb)
                clear hb ho1 ho2
                go_wp2_with fail
                refine pieceEnd_normal ⟨HF.out, ?_⟩
                clear HF
                refine flow_reads (F := BN D n0) (fun _ => BN.refl _ _ _) (by kernel_rfl) [14, 15, 16] (fuel := 2) (by kernel_rfl) ?_
                simp only [List.map_cons, List.map_nil, pick, List.getD_cons_zero, List.getD_cons_succ]
                repeat (go_big_quiet_step (fail))
                refine wpQuiet_nil ?_
                refine flow_one (F := BN D n0) (fun _ _ _ => BN.trans) (fun _ => BN.refl _ _ _) 18 (by kernel_rfl) (by decide) ?_
                simp only [pick, List.getD_cons_zero, List.getD_cons_succ]
                go_wp2_with (refine wpList_store_row rfl 31 (.tmp 5) (.tmp 47) rfl g5 #[.int .i64 RW.1.sz, .slice A5 RW.1.es.length c5, .slice B5 RW.1.gn.length k5] rfl rfl 31 _ HA.out gr_size rfl (by simp [Value.oneCell']) ?_)
                refine pieceEnd_normal ⟨BN.row _ _ hg5, ?_⟩
                have HA5 := Lib.hid (setRow_heap z10 g5 _ #[.int .i64 RW.1.sz, .slice A5 RW.1.es.length c5, .slice B5 RW.1.gn.length k5] _ _ HA.out)
                replace HO1 := Lib.hid (own_keepL HO1.out fun q hq => setRow_other z10 g5 q #[.int .i64 RW.1.sz, .slice A5 RW.1.es.length c5, .slice B5 RW.1.gn.length k5] (HX1.out q hq))
                replace HO2 := Lib.hid (own_keepL HO2.out fun q hq => setRow_other z10 g5 q #[.int .i64 RW.1.sz, .slice A5 RW.1.es.length c5, .slice B5 RW.1.gn.length k5] (HX2.out q hq))
                replace HS := Lib.hid (HS.out.other (q := g5) (by omega) (fun b hb => by have := HVE.out b hb; omega) (fun b hb => by have := HVG.out b hb; omega) #[.int .i64 RW.1.sz, .slice A5 RW.1.es.length c5, .slice B5 RW.1.gn.length k5])
                clear HA HX1 HX2 HN
                generalize z10.setRow g5 #[.int .i64 RW.1.sz, .slice A5 RW.1.es.length c5, .slice B5 RW.1.gn.length k5] = zz at *
                refine flow_reads (F := BN D n0) (fun _ => BN.refl _ _ _) (by kernel_rfl) [19] (fuel := 0) (by kernel_rfl) ?_
                simp only [List.map_cons, List.map_nil, pick, List.getD_cons_zero, List.getD_cons_succ]
                repeat (go_big_quiet_step (fail))
                refine wpQuiet_nil ?_
                refine flow_done (by kernel_rfl) ?_
                by_cases her : RW.2 = 0
                · have b0 : (RW.2 == 0) = true := by rw [her]; rfl
                  obtain ⟨hgd, hsz, hgn2⟩ := HRW.out her
                  have HT := Lib.hid (HS.out.turn (G' := RW.1) (below_setRow (Below.refl _ _) (Nat.le_refl g) #[.int .i64 RW.1.sz, .slice A5 RW.1.es.length c5, .slice B5 RW.1.gn.length k5]) (setRow_heap zz g _ #[.int .i64 RW.1.sz, .slice A5 RW.1.es.length c5, .slice B5 RW.1.gn.length k5] _ _ HS.out.here) (own_keepL HO1.out fun q hq => setRow_other _ _ _ _ (by have := own_ge HO1.out q hq; omega)) (own_keepL HO2.out fun q hq => setRow_other _ _ _ _ (by have := own_ge HO2.out q hq; omega)) hgd (by rw [hsz]; exact HS.out.two) (by rw [hgn2]; exact HS.out.one))
                  clear her hgd hsz hgn2 HRW
                  go_wp2_with (first | (refine wpList_load_row rfl 31 (.tmp 5) rfl g5 rfl 31 #[.int .i64 RW.1.sz, .slice A5 RW.1.es.length c5, .slice B5 RW.1.gn.length k5] (0, 0) _ HA5.out Try.underlying31 rfl gr_size ?_) | (refine wpList_store_row rfl 31 (.tmp 3) (.tmp 51) rfl g #[.int .i64 RW.1.sz, .slice A5 RW.1.es.length c5, .slice B5 RW.1.gn.length k5] rfl rfl 31 _ HS.out.here gr_size rfl (by simp [Value.oneCell']) ?_))
                  exact ⟨⟨j - 1, RW.1, _, _, by omega, by go_num, HT⟩, by simp [intOf]; omega⟩
                · have b0 : (RW.2 == 0) = false := by rw [beq_eq_false_iff_ne]; exact her
                  clear her HRW
                  go_wp2_with fail
                  exact ⟨⟨j - 1, G, ve, vg, by omega, by go_num, HS⟩, by simp [intOf]; omega⟩
            · skip
              go_wp2_with fail
              have hb := one_new z1 (.cells #[.int .i64 0, .slice none 0 0, .slice none 0 0] 31)
              refine pieceEnd_normal ⟨BN.later hb HN.out, ?_⟩
              have HA : Hid ((z1.alloc (.cells #[.int .i64 0, .slice none 0 0, .slice none 0 0] 31)).heap[z1.heap.size]? = some (.cells #[.int .i64 0, .slice none 0 0, .slice none 0 0] 31 (0, 0))) := Lib.hid (heap_alloc_new _ _)
              have hg5 : n0 ≤ z1.heap.size := HN.out
              replace HS := Lib.hid (HS.out.later hb)
              replace HN := Lib.hid (Nat.le_trans HN.out hb.size)
              clear hb
              generalize z1.alloc (.cells #[.int .i64 0, .slice none 0 0, .slice none 0 0] 31) = z11 at *
              generalize z1.heap.size = g5 at *
              refine flow_one (F := BN D n0) (fun _ _ _ => BN.trans) (fun _ => BN.refl _ _ _) 8 (by kernel_rfl) (by decide) ?_
              simp only [pick, List.getD_cons_zero, List.getD_cons_succ]
              go_wp2_with fail
              refine (next_g L D t G.sz z11 HS.out.dice (by omega) (by omega)).mono ?_
              rintro e z12 ⟨v1, rfl, hv10, hv11, hg⟩
              have HF : Hid (BN D n0 z11 z12) := Lib.hid (BN.but hg.2 HN.out)
              replace HN := Lib.hid (Nat.le_trans HN.out hg.2.size)
              replace HA : Hid (z12.heap[g5]? = some (.cells #[.int .i64 0, .slice none 0 0, .slice none 0 0] 31 (0, 0))) := Lib.hid ((hg.2.block g5 (Array.getElem?_eq_some_iff.1 HA.out).1 (by omega)).trans HA.out)
              replace HS := Lib.hid (HS.out.gave hg)
              clear hg
              go_wp2_with fail
              refine pieceEnd_normal ⟨HF.out, ?_⟩
              clear HF
              refine flow_one (F := BN D n0) (fun _ _ _ => BN.trans) (fun _ => BN.refl _ _ _) 10 (by kernel_rfl) (by decide) ?_
              simp only [pick, List.getD_cons_zero, List.getD_cons_succ]
              go_wp2_with fail
              refine (next_g L D t 3 z12 HS.out.dice (by omega) (by omega)).mono ?_
              rintro e z13 ⟨v2, rfl, hv20, hv21, hg⟩
              have HF : Hid (BN D n0 z12 z13) := Lib.hid (BN.but hg.2 HN.out)
              replace HN := Lib.hid (Nat.le_trans HN.out hg.2.size)
              replace HA : Hid (z13.heap[g5]? = some (.cells #[.int .i64 0, .slice none 0 0, .slice none 0 0] 31 (0, 0))) := Lib.hid ((hg.2.block g5 (Array.getElem?_eq_some_iff.1 HA.out).1 (by omega)).trans HA.out)
              replace HS := Lib.hid (HS.out.gave hg)
              clear hg
              go_wp2_with fail
              refine pieceEnd_normal ⟨HF.out, ?_⟩
              clear HF
              refine flow_reads (F := BN D n0) (fun _ => BN.refl _ _ _) (by kernel_rfl) [11] (fuel := 7) (by kernel_rfl) ?_
              simp only [List.map_cons, List.map_nil, pick, List.getD_cons_zero, List.getD_cons_succ]
              repeat (go_big_quiet_step (fail))
              refine wpQuiet_nil ?_
              refine flow_val (F := BN D n0) (fun _ => BN.refl _ _ _) (by kernel_rfl) 12 (by kernel_rfl) ?_
              simp only [pick, List.getD_cons_zero, List.getD_cons_succ]
              repeat (go_big_quiet_step (fail))
              refine wpQuiet_nil ?_
              refine flow_one (F := BN D n0) (fun _ _ _ => BN.trans) (fun _ => BN.refl _ _ _) 13 (by kernel_rfl) (by decide) ?_
              simp only [pick, List.getD_cons_zero, List.getD_cons_succ]
              have HWC : Hid (Calls Try.prog 18 #[.agg #[.int .i64 G.sz, .slice Ae G.es.length ce, .slice Ag G.gn.length cg], .agg #[.int .i64 v0, .int .i64 v1, .int .i64 (1 + v2)]] z13 (GivesGOE z13 (withG G ⟨v0, v1, 1 + v2⟩))) := Lib.hid (by
                have h := gwith_any G _ ⟨v0, v1, 1 + v2⟩ z13 HS.out.hold HLA.out HLB.out
                rw [hve, hvg] at h
                exact h)
              have HRW : Hid ((withG G ⟨v0, v1, 1 + v2⟩).2 = 0 → Good11 (withG G ⟨v0, v1, 1 + v2⟩).1 ∧ (withG G ⟨v0, v1, 1 + v2⟩).1.sz = G.sz ∧ (withG G ⟨v0, v1, 1 + v2⟩).1.gn = G.gn) := Lib.hid fun h => by
                obtain ⟨-, h2, h3, -⟩ := with_good h
                exact ⟨h2, by rw [h3], by rw [h3]⟩
              generalize withG G ⟨v0, v1, 1 + v2⟩ = RW at *
              go_wp2_with fail
              refine HWC.out.mono ?_
              clear HWC
              rintro e z14 ⟨vv, rfl, ⟨e5, w5, rfl, ho1, ho2⟩, hb⟩
              have HF : Hid (BN D n0 z13 z14) := Lib.hid (BN.later hb HN.out)
              obtain ⟨A5, c5, rfl, -⟩ := Row.of_own ho1
              obtain ⟨B5, k5, rfl, -⟩ := Row.of_own ho2
              have HO1 := Lib.hid (own_base ho1 (show g + 1 ≤ z13.heap.size from HS.out.lt))
              have HO2 := Lib.hid (own_base ho2 (show g + 1 ≤ z13.heap.size from HS.out.lt))
              replace HN := Lib.hid (Nat.le_trans HN.out hb.size)
              have hg5l : g5 < z13.heap.size := (Array.getElem?_eq_some_iff.1 HA.out).1
              have HX1 : Hid (∀ q, (Value.slice A5 RW.1.es.length c5).ownBlock = some q → q ≠ g5) := Lib.hid fun q hq => by have := own_ge ho1 q hq; omega
              have HX2 : Hid (∀ q, (Value.slice B5 RW.1.gn.length k5).ownBlock = some q → q ≠ g5) := Lib.hid fun q hq => by have := own_ge ho2 q hq; omega
              replace HA : Hid (z14.heap[g5]? = some (.cells #[.int .i64 0, .slice none 0 0, .slice none 0 0] 31 (0, 0))) := Lib.hid ((hb.block g5 hg5l).trans HA.out)
              clear hg5l
              replace HS := Lib.hid (HS.out.later hb)
              clear hb ho1 ho2
              go_wp2_with fail
              refine pieceEnd_normal ⟨HF.out, ?_⟩
              clear HF
              refine flow_reads (F := BN D n0) (fun _ => BN.refl _ _ _) (by kernel_rfl) [14, 15, 16] (fuel := 2) (by kernel_rfl) ?_
              simp only [List.map_cons, List.map_nil, pick, List.getD_cons_zero, List.getD_cons_succ]
              repeat (go_big_quiet_step (fail))
              refine wpQuiet_nil ?_
              refine flow_one (F := BN D n0) (fun _ _ _ => BN.trans) (fun _ => BN.refl _ _ _) 18 (by kernel_rfl) (by decide) ?_
              simp only [pick, List.getD_cons_zero, List.getD_cons_succ]
              go_wp2_with (refine wpList_store_row rfl 31 (.tmp 5) (.tmp 47) rfl g5 #[.int .i64 RW.1.sz, .slice A5 RW.1.es.length c5, .slice B5 RW.1.gn.length k5] rfl rfl 31 _ HA.out gr_size rfl (by simp [Value.oneCell']) ?_)
              refine pieceEnd_normal ⟨BN.row _ _ hg5, ?_⟩
              have HA5 := Lib.hid (setRow_heap z14 g5 _ #[.int .i64 RW.1.sz, .slice A5 RW.1.es.length c5, .slice B5 RW.1.gn.length k5] _ _ HA.out)
              replace HO1 := Lib.hid (own_keepL HO1.out fun q hq => setRow_other z14 g5 q #[.int .i64 RW.1.sz, .slice A5 RW.1.es.length c5, .slice B5 RW.1.gn.length k5] (HX1.out q hq))
              replace HO2 := Lib.hid (own_keepL HO2.out fun q hq => setRow_other z14 g5 q #[.int .i64 RW.1.sz, .slice A5 RW.1.es.length c5, .slice B5 RW.1.gn.length k5] (HX2.out q hq))
              replace HS := Lib.hid (HS.out.other (q := g5) (by omega) (fun b hb => by have := HVE.out b hb; omega) (fun b hb => by have := HVG.out b hb; omega) #[.int .i64 RW.1.sz, .slice A5 RW.1.es.length c5, .slice B5 RW.1.gn.length k5])
              clear HA HX1 HX2 HN
              generalize z14.setRow g5 #[.int .i64 RW.1.sz, .slice A5 RW.1.es.length c5, .slice B5 RW.1.gn.length k5] = zz at *
              refine flow_reads (F := BN D n0) (fun _ => BN.refl _ _ _) (by kernel_rfl) [19] (fuel := 0) (by kernel_rfl) ?_
              simp only [List.map_cons, List.map_nil, pick, List.getD_cons_zero, List.getD_cons_succ]
              repeat (go_big_quiet_step (fail))
              refine wpQuiet_nil ?_
              refine flow_done (by kernel_rfl) ?_
              by_cases her : RW.2 = 0
              · have b0 : (RW.2 == 0) = true := by rw [her]; rfl
                obtain ⟨hgd, hsz, hgn2⟩ := HRW.out her
                have HT := Lib.hid (HS.out.turn (G' := RW.1) (below_setRow (Below.refl _ _) (Nat.le_refl g) #[.int .i64 RW.1.sz, .slice A5 RW.1.es.length c5, .slice B5 RW.1.gn.length k5]) (setRow_heap zz g _ #[.int .i64 RW.1.sz, .slice A5 RW.1.es.length c5, .slice B5 RW.1.gn.length k5] _ _ HS.out.here) (own_keepL HO1.out fun q hq => setRow_other _ _ _ _ (by have := own_ge HO1.out q hq; omega)) (own_keepL HO2.out fun q hq => setRow_other _ _ _ _ (by have := own_ge HO2.out q hq; omega)) hgd (by rw [hsz]; exact HS.out.two) (by rw [hgn2]; exact HS.out.one))
                clear her hgd hsz hgn2 HRW
                go_wp2_with (first | (refine wpList_load_row rfl 31 (.tmp 5) rfl g5 rfl 31 #[.int .i64 RW.1.sz, .slice A5 RW.1.es.length c5, .slice B5 RW.1.gn.length k5] (0, 0) _ HA5.out Try.underlying31 rfl gr_size ?_) | (refine wpList_store_row rfl 31 (.tmp 3) (.tmp 51) rfl g #[.int .i64 RW.1.sz, .slice A5 RW.1.es.length c5, .slice B5 RW.1.gn.length k5] rfl rfl 31 _ HS.out.here gr_size rfl (by simp [Value.oneCell']) ?_))
                exact ⟨⟨j - 1, RW.1, _, _, by omega, by go_num, HT⟩, by simp [intOf]; omega⟩
              · have b0 : (RW.2 == 0) = false := by rw [beq_eq_false_iff_ne]; exact her
                clear her HRW
                go_wp2_with fail
                exact ⟨⟨j - 1, G, ve, vg, by omega, by go_num, HS⟩, by simp [intOf]; omega⟩
          · skip
            go_wp2_with fail
            have hb := one_new z0 (.cells #[.int .i64 0, .slice none 0 0, .slice none 0 0] 31)
            refine pieceEnd_normal ⟨BN.later hb HN.out, ?_⟩
            have HA : Hid ((z0.alloc (.cells #[.int .i64 0, .slice none 0 0, .slice none 0 0] 31)).heap[z0.heap.size]? = some (.cells #[.int .i64 0, .slice none 0 0, .slice none 0 0] 31 (0, 0))) := Lib.hid (heap_alloc_new _ _)
            have hg5 : n0 ≤ z0.heap.size := HN.out
            replace HS := Lib.hid (HS.out.later hb)
            replace HN := Lib.hid (Nat.le_trans HN.out hb.size)
            clear hb
            generalize z0.alloc (.cells #[.int .i64 0, .slice none 0 0, .slice none 0 0] 31) = z15 at *
            generalize z0.heap.size = g5 at *
            refine flow_one (F := BN D n0) (fun _ _ _ => BN.trans) (fun _ => BN.refl _ _ _) 4 (by kernel_rfl) (by decide) ?_
            simp only [pick, List.getD_cons_zero, List.getD_cons_succ]
            go_wp2_with fail
            refine (next_g L D t G.sz z15 HS.out.dice (by omega) (by omega)).mono ?_
            rintro e z16 ⟨v0, rfl, hv00, hv01, hg⟩
            have HF : Hid (BN D n0 z15 z16) := Lib.hid (BN.but hg.2 HN.out)
            replace HN := Lib.hid (Nat.le_trans HN.out hg.2.size)
            replace HA : Hid (z16.heap[g5]? = some (.cells #[.int .i64 0, .slice none 0 0, .slice none 0 0] 31 (0, 0))) := Lib.hid ((hg.2.block g5 (Array.getElem?_eq_some_iff.1 HA.out).1 (by omega)).trans HA.out)
            replace HS := Lib.hid (HS.out.gave hg)
            clear hg
            go_wp2_with fail
            refine pieceEnd_normal ⟨HF.out, ?_⟩
            clear HF
            refine flow_one (F := BN D n0) (fun _ _ _ => BN.trans) (fun _ => BN.refl _ _ _) 8 (by kernel_rfl) (by decide) ?_
            simp only [pick, List.getD_cons_zero, List.getD_cons_succ]
            go_wp2_with fail
            refine (next_g L D t G.sz z16 HS.out.dice (by omega) (by omega)).mono ?_
            rintro e z17 ⟨v1, rfl, hv10, hv11, hg⟩
            have HF : Hid (BN D n0 z16 z17) := Lib.hid (BN.but hg.2 HN.out)
            replace HN := Lib.hid (Nat.le_trans HN.out hg.2.size)
            replace HA : Hid (z17.heap[g5]? = some (.cells #[.int .i64 0, .slice none 0 0, .slice none 0 0] 31 (0, 0))) := Lib.hid ((hg.2.block g5 (Array.getElem?_eq_some_iff.1 HA.out).1 (by omega)).trans HA.out)
            replace HS := Lib.hid (HS.out.gave hg)
            clear hg
            go_wp2_with fail
            refine pieceEnd_normal ⟨HF.out, ?_⟩
            clear HF
            refine flow_one (F := BN D n0) (fun _ _ _ => BN.trans) (fun _ => BN.refl _ _ _) 10 (by kernel_rfl) (by decide) ?_
            simp only [pick, List.getD_cons_zero, List.getD_cons_succ]
            go_wp2_with fail
            refine (next_g L D t 3 z17 HS.out.dice (by omega) (by omega)).mono ?_
            rintro e z18 ⟨v2, rfl, hv20, hv21, hg⟩
            have HF : Hid (BN D n0 z17 z18) := Lib.hid (BN.but hg.2 HN.out)
            replace HN := Lib.hid (Nat.le_trans HN.out hg.2.size)
            replace HA : Hid (z18.heap[g5]? = some (.cells #[.int .i64 0, .slice none 0 0, .slice none 0 0] 31 (0, 0))) := Lib.hid ((hg.2.block g5 (Array.getElem?_eq_some_iff.1 HA.out).1 (by omega)).trans HA.out)
            replace HS := Lib.hid (HS.out.gave hg)
            clear hg
            go_wp2_with fail
            refine pieceEnd_normal ⟨HF.out, ?_⟩
            clear HF
            refine flow_reads (F := BN D n0) (fun _ => BN.refl _ _ _) (by kernel_rfl) [11] (fuel := 7) (by kernel_rfl) ?_
            simp only [List.map_cons, List.map_nil, pick, List.getD_cons_zero, List.getD_cons_succ]
            repeat (go_big_quiet_step (fail))
            refine wpQuiet_nil ?_
            refine flow_val (F := BN D n0) (fun _ => BN.refl _ _ _) (by kernel_rfl) 12 (by kernel_rfl) ?_
            simp only [pick, List.getD_cons_zero, List.getD_cons_succ]
            repeat (go_big_quiet_step (fail))
            refine wpQuiet_nil ?_
            refine flow_one (F := BN D n0) (fun _ _ _ => BN.trans) (fun _ => BN.refl _ _ _) 13 (by kernel_rfl) (by decide) ?_
            simp only [pick, List.getD_cons_zero, List.getD_cons_succ]
            have HWC : Hid (Calls Try.prog 18 #[.agg #[.int .i64 G.sz, .slice Ae G.es.length ce, .slice Ag G.gn.length cg], .agg #[.int .i64 v0, .int .i64 v1, .int .i64 (1 + v2)]] z18 (GivesGOE z18 (withG G ⟨v0, v1, 1 + v2⟩))) := Lib.hid (by
              have h := gwith_any G _ ⟨v0, v1, 1 + v2⟩ z18 HS.out.hold HLA.out HLB.out
              rw [hve, hvg] at h
              exact h)
            have HRW : Hid ((withG G ⟨v0, v1, 1 + v2⟩).2 = 0 → Good11 (withG G ⟨v0, v1, 1 + v2⟩).1 ∧ (withG G ⟨v0, v1, 1 + v2⟩).1.sz = G.sz ∧ (withG G ⟨v0, v1, 1 + v2⟩).1.gn = G.gn) := Lib.hid fun h => by
              obtain ⟨-, h2, h3, -⟩ := with_good h
              exact ⟨h2, by rw [h3], by rw [h3]⟩
            generalize withG G ⟨v0, v1, 1 + v2⟩ = RW at *
            go_wp2_with fail
            refine HWC.out.mono ?_
            clear HWC
            rintro e z19 ⟨vv, rfl, ⟨e5, w5, rfl, ho1, ho2⟩, hb⟩
            have HF : Hid (BN D n0 z18 z19) := Lib.hid (BN.later hb HN.out)
            obtain ⟨A5, c5, rfl, -⟩ := Row.of_own ho1
            obtain ⟨B5, k5, rfl, -⟩ := Row.of_own ho2
            have HO1 := Lib.hid (own_base ho1 (show g + 1 ≤ z18.heap.size from HS.out.lt))
            have HO2 := Lib.hid (own_base ho2 (show g + 1 ≤ z18.heap.size from HS.out.lt))
            replace HN := Lib.hid (Nat.le_trans HN.out hb.size)
            have hg5l : g5 < z18.heap.size := (Array.getElem?_eq_some_iff.1 HA.out).1
            have HX1 : Hid (∀ q, (Value.slice A5 RW.1.es.length c5).ownBlock = some q → q ≠ g5) := Lib.hid fun q hq => by have := own_ge ho1 q hq; omega
            have HX2 : Hid (∀ q, (Value.slice B5 RW.1.gn.length k5).ownBlock = some q → q ≠ g5) := Lib.hid fun q hq => by have := own_ge ho2 q hq; omega
            replace HA : Hid (z19.heap[g5]? = some (.cells #[.int .i64 0, .slice none 0 0, .slice none 0 0] 31 (0, 0))) := Lib.hid ((hb.block g5 hg5l).trans HA.out)
            clear hg5l
            replace HS := Lib.hid (HS.out.later hb)
            clear hb ho1 ho2
            go_wp2_with fail
            refine pieceEnd_normal ⟨HF.out, ?_⟩
            clear HF
            refine flow_reads (F := BN D n0) (fun _ => BN.refl _ _ _) (by kernel_rfl) [14, 15, 16] (fuel := 2) (by kernel_rfl) ?_
            simp only [List.map_cons, List.map_nil, pick, List.getD_cons_zero, List.getD_cons_succ]
            repeat (go_big_quiet_step (fail))
            refine wpQuiet_nil ?_
            refine flow_one (F := BN D n0) (fun _ _ _ => BN.trans) (fun _ => BN.refl _ _ _) 18 (by kernel_rfl) (by decide) ?_
            simp only [pick, List.getD_cons_zero, List.getD_cons_succ]
            go_wp2_with (refine wpList_store_row rfl 31 (.tmp 5) (.tmp 47) rfl g5 #[.int .i64 RW.1.sz, .slice A5 RW.1.es.length c5, .slice B5 RW.1.gn.length k5] rfl rfl 31 _ HA.out gr_size rfl (by simp [Value.oneCell']) ?_)
            refine pieceEnd_normal ⟨BN.row _ _ hg5, ?_⟩
            have HA5 := Lib.hid (setRow_heap z19 g5 _ #[.int .i64 RW.1.sz, .slice A5 RW.1.es.length c5, .slice B5 RW.1.gn.length k5] _ _ HA.out)
            replace HO1 := Lib.hid (own_keepL HO1.out fun q hq => setRow_other z19 g5 q #[.int .i64 RW.1.sz, .slice A5 RW.1.es.length c5, .slice B5 RW.1.gn.length k5] (HX1.out q hq))
            replace HO2 := Lib.hid (own_keepL HO2.out fun q hq => setRow_other z19 g5 q #[.int .i64 RW.1.sz, .slice A5 RW.1.es.length c5, .slice B5 RW.1.gn.length k5] (HX2.out q hq))
            replace HS := Lib.hid (HS.out.other (q := g5) (by omega) (fun b hb => by have := HVE.out b hb; omega) (fun b hb => by have := HVG.out b hb; omega) #[.int .i64 RW.1.sz, .slice A5 RW.1.es.length c5, .slice B5 RW.1.gn.length k5])
            clear HA HX1 HX2 HN
            generalize z19.setRow g5 #[.int .i64 RW.1.sz, .slice A5 RW.1.es.length c5, .slice B5 RW.1.gn.length k5] = zz at *
            refine flow_reads (F := BN D n0) (fun _ => BN.refl _ _ _) (by kernel_rfl) [19] (fuel := 0) (by kernel_rfl) ?_
            simp only [List.map_cons, List.map_nil, pick, List.getD_cons_zero, List.getD_cons_succ]
            repeat (go_big_quiet_step (fail))
            refine wpQuiet_nil ?_
            refine flow_done (by kernel_rfl) ?_
            by_cases her : RW.2 = 0
            · have b0 : (RW.2 == 0) = true := by rw [her]; rfl
              obtain ⟨hgd, hsz, hgn2⟩ := HRW.out her
              have HT := Lib.hid (HS.out.turn (G' := RW.1) (below_setRow (Below.refl _ _) (Nat.le_refl g) #[.int .i64 RW.1.sz, .slice A5 RW.1.es.length c5, .slice B5 RW.1.gn.length k5]) (setRow_heap zz g _ #[.int .i64 RW.1.sz, .slice A5 RW.1.es.length c5, .slice B5 RW.1.gn.length k5] _ _ HS.out.here) (own_keepL HO1.out fun q hq => setRow_other _ _ _ _ (by have := own_ge HO1.out q hq; omega)) (own_keepL HO2.out fun q hq => setRow_other _ _ _ _ (by have := own_ge HO2.out q hq; omega)) hgd (by rw [hsz]; exact HS.out.two) (by rw [hgn2]; exact HS.out.one))
              clear her hgd hsz hgn2 HRW
              go_wp2_with (first | (refine wpList_load_row rfl 31 (.tmp 5) rfl g5 rfl 31 #[.int .i64 RW.1.sz, .slice A5 RW.1.es.length c5, .slice B5 RW.1.gn.length k5] (0, 0) _ HA5.out Try.underlying31 rfl gr_size ?_) | (refine wpList_store_row rfl 31 (.tmp 3) (.tmp 51) rfl g #[.int .i64 RW.1.sz, .slice A5 RW.1.es.length c5, .slice B5 RW.1.gn.length k5] rfl rfl 31 _ HS.out.here gr_size rfl (by simp [Value.oneCell']) ?_))
              exact ⟨⟨j - 1, RW.1, _, _, by omega, by go_num, HT⟩, by simp [intOf]; omega⟩
            · have b0 : (RW.2 == 0) = false := by rw [beq_eq_false_iff_ne]; exact her
              clear her HRW
              go_wp2_with fail
              exact ⟨⟨j - 1, G, ve, vg, by omega, by go_num, HS⟩, by simp [intOf]; omega⟩
        · have hlt2 : ¬ (0 : Int) < (j : Int) := by omega
          have b0 : decide ((j : Int) > 0) = false := decide_eq_false hlt2
          obtain ⟨Ae, ce, hve, -⟩ := Row.of_own HGS.out.es
          obtain ⟨Ag, cg, hvg, -⟩ := Row.of_own HGS.out.gn
          subst hve hvg
          go_wp2_with (first | (refine wpList_load_row rfl 31 (.tmp 3) rfl g rfl 31 #[.int .i64 G.sz, .slice Ae G.es.length ce, .slice Ag G.gn.length cg] (0, 0) _ HGS.out.here Try.underlying31 rfl gr_size ?_) | (refine wpList_store_row rfl 31 (.tmp 2) (.tmp 52) rfl w.heap.size #[.int .i64 G.sz, .slice Ae G.es.length ce, .slice Ag G.gn.length cg] rfl rfl 31 _ HGS.out.res gr_size rfl (by simp [Value.oneCell']) ?_))
          refine bodyPost_ret (v := .agg #[.int .i64 G.sz, .slice Ae G.es.length ce, .slice Ag G.gn.length cg]) (results_cell_row rfl _ _ w.heap.size 31 #[.int .i64 G.sz, .slice Ae G.es.length ce, .slice Ag G.gn.length cg] (0, 0) _ rfl (setRow_heap _ _ _ #[.int .i64 G.sz, .slice Ae G.es.length ce, .slice Ag G.gn.length cg] _ _ HGS.out.res) Try.underlying31 rfl gr_size) rfl ?_
          have hgl := HGS.out.glt
          have hbr : Below w.heap.size wr (wr.setRow w.heap.size #[.int .i64 G.sz, .slice Ae G.es.length ce, .slice Ag G.gn.length cg]) := below_setRow (Below.refl _ _) (Nat.le_refl _) _
          refine ⟨_, rfl, G, ⟨_, _, rfl, ?_, ?_⟩, HGS.out.good, HGS.out.two, HGS.out.one, ?_, ⟨hbr.os.trans HGS.out.but.os, hbr.tape.trans HGS.out.but.tape, hbr.output.trans HGS.out.but.output, Nat.le_trans HGS.out.but.size hbr.size, fun k hk hd => (hbr.block k hk).trans (HGS.out.but.block k hk hd)⟩⟩
          · exact own_base (own_keepL HGS.out.es fun q hq => setRow_other _ _ _ _ (by have := own_ge HGS.out.es q hq; omega)) (by omega)
          · exact own_base (own_keepL HGS.out.gn fun q hq => setRow_other _ _ _ _ (by have := own_ge HGS.out.gn q hq; omega)) (by omega)
          · obtain ⟨k, hk⟩ := HGS.out.dice
            exact ⟨k, hk.below hbr HGS.out.dlt⟩
end Go.Proofs.Ytdildmfjekdlgaa
