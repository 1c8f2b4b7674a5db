import Derived.Test.YtikmffdmgnjpbaaPackAS
import Derived.Test.YtikmffdmgnjpbaaPackAQ
import Derived.Deep.LoopGhost
/- The walk of distance's Way. -/
namespace Go.Proofs.Ytikmffdmgnjpbaa
open Go.RowKit
/-- The way to a key, and whether there is one. -/
def wayD (G : Gr) (seeds : List Int) (key : Int) : List Int × Bool := if 0 ≤ key ∧ key < G.sz ∧ 0 ≤ dAt (allD G seeds) key then (wayUp (allD G seeds) G.es (marked (allD G seeds) G.es G.sz.toNat key) G.sz.toNat ((dAt (allD G seeds) key).toNat + 1), true) else ([], false)
def GivesIB (w : World) (R : List Int × Bool) (e : Ending) (w' : World) : Prop := ∃ A n c, e = .returned (.tuple #[.slice A n c, .bool R.2]) ∧ IRow w' A n c R.1 ∧ Below w.heap.size w w'
def bkL (bf : List Int) (key : Int) (m : Nat) : List Int := (List.range (m + 1)).map (bk bf key)
theorem bkL_snoc (bf : List Int) (key : Int) (m : Nat) : bkL bf key (m + 1) = bkL bf key m ++ [bk bf key (m + 1)] := by
  unfold bkL
  rw [List.range_succ (n := m + 1), List.map_append]; rfl
theorem bkL_len (bf : List Int) (key : Int) (m : Nat) : (bkL bf key m).length = m + 1 := by unfold bkL; rw [List.length_map, List.length_range]
theorem bkL_rev (bf : List Int) (key : Int) (n : Nat) : (bkL bf key n).reverse = (List.range (n + 1)).map fun i => bk bf key (n - i) := by
  unfold bkL
  apply List.ext_getElem
  · simp
  · intro k h1 h2
    rw [List.getElem_reverse]
    simp only [List.getElem_map, List.getElem_range, List.length_map, List.length_range]
    congr 1
theorem Srch.upto {z : Nat} {es : List Edg} {sd : Int → Bool} {T : List Qd} {d bf : List Int} {key : Int} {n : Nat} (S : Srch z es sd T.length [] T d bf) (hz : ∀ e ∈ es, InZ z e) (hk0 : 0 ≤ key) (hk1 : key < z) (hn : dAt d key = (n : Int)) : (bkL bf key n).reverse = wayUp d es (marked d es z key) z (n + 1) := by
  rw [S.way hz hk0 hk1 hn (n + 1) (Nat.le_refl _), bkL_rev]
theorem Srch.bkin {z : Nat} {es : List Edg} {sd : Int → Bool} {T : List Qd} {d bf : List Int} {key : Int} {n : Nat} (S : Srch z es sd T.length [] T d bf) (hk0 : 0 ≤ key) (hk1 : key < z) (hn : dAt d key = (n : Int)) (m : Nat) (hm : m ≤ n) : 0 ≤ bk bf key m ∧ bk bf key m < z ∧ dAt d (bk bf key m) = ((n - m : Nat) : Int) := by
  obtain ⟨⟨x, hx, e⟩, hd, -⟩ := S.back hk0 hk1 hn m hm
  have h := S.inz x hx
  rw [e] at h
  exact ⟨h.1, h.2, hd⟩
set_option maxRecDepth 100000 in
set_option maxHeartbeats 4000000 in
theorem way_any (G : Gr) (v : Value) (A2 : Option Addr) (n2 c2 : Nat) (seeds : List Int) (key : Int) (w : World) (h : GHold w G v) (hgd : Good11 G) (hs : IRow w A2 n2 c2 seeds) (hn2 : n2 ≤ 100000) : Calls Try.prog 16 #[v, .slice A2 n2 c2, .int .i64 key] w (GivesIB w (wayD G seeds key)) := by
  have HGH := Lib.hid h
  obtain ⟨A, n, c, B, m, k, rfl, -, -⟩ := h
  have HNW := Lib.hid (one_new w (.cells #[.int .i64 G.sz, .slice A n c, .slice B m k] 29))
  have HX : Hid ((w.alloc (.cells #[.int .i64 G.sz, .slice A n c, .slice B m k] 29)).heap[w.heap.size]? = some (.cells #[.int .i64 G.sz, .slice A n c, .slice B m k] 29 (0, 0))) := Lib.hid (heap_alloc_new _ _)
  have HSE : Hid (∀ y, Below w.heap.size w y → Calls Try.prog 27 #[.agg #[.int .i64 G.sz, .slice A n c, .slice B m k], .slice A2 n2 c2] y (GivesSr G seeds y)) := Lib.hid fun y hy => search_any G _ A2 n2 c2 seeds y (HGH.out.later hy) hgd (hs.later hy) hn2
  have HAD := Lib.hid (allD_dist hgd seeds)
  have HIZ := Lib.hid (good_inZ hgd)
  have hlo := hgd.lo
  have hhi := hgd.hi
  obtain ⟨z, hz⟩ : ∃ z : Nat, G.sz.toNat = z := ⟨_, rfl⟩
  have HGZ : Hid (G.sz = (z : Int)) := Lib.hid (by omega)
  have hz64 : z ≤ 64 := by omega
  unfold GivesSr at HSE
  rw [hz] at HSE HIZ HAD
  have HZZ := Lib.hid hz
  clear hs hgd HGH hz hlo hhi
  go_enter Try.func16, Try.ntmps16
  go_upto_region 1 with fail
  have HSZ : Hid (w.heap.size ≤ (w.alloc (.cells #[.int .i64 G.sz, .slice A n c, .slice B m k] 29)).heap.size) := Lib.hid HNW.out.size
  generalize w.alloc (.cells #[.int .i64 G.sz, .slice A n c, .slice B m k] 29) = y0 at *
  go_wp2_with (refine wpList_load_row rfl 29 (.tmp 3) rfl w.heap.size rfl 29 #[.int .i64 G.sz, .slice A n c, .slice B m k] (0, 0) _ HX.out Try.underlying29 rfl gr_size ?_)
  refine (HSE.out y0 HNW.out).mono ?_
  rintro e w1 ⟨gd, gb, d, bf, T, rfl, h1, h2, h3, h4, h5, h6, hb⟩
  have HD : Hid (d = allD G seeds) := Lib.hid ((h3.dist rfl).uniq HAD.out)
  have HDS := Lib.hid h1
  have HBF := Lib.hid h2
  have HSR := Lib.hid h3
  have HB := Lib.hid hb
  have HBW : Hid (Below w.heap.size w w1) := Lib.hid (HNW.out.trans (hb.mono HSZ.out))
  have HLT : Hid (gd < w1.heap.size ∧ gb < w1.heap.size) := Lib.hid ⟨h1.lt, h2.lt⟩
  clear h1 h2 h3 h4 h5 h6 hb HSE HX HAD
  by_cases hk0 : key < 0
  · have d0 : decide (key < 0) = true := decide_eq_true hk0
    have HNO : Hid (¬ (0 ≤ key ∧ key < G.sz ∧ 0 ≤ dAt (allD G seeds) key)) := Lib.hid (by omega)
    clear hk0
    have HE : Hid (wayD G seeds key = ([], false)) := Lib.hid (by unfold wayD; rw [if_neg HNO.out])
    go_wp2_with fail
    go_ret2
    rw [HE.out]
    exact ⟨none, 0, 0, rfl, Row.nilRow _ _, HBW.out⟩
  have d0 : decide (key < 0) = false := decide_eq_false hk0
  by_cases hk1 : (z : Int) ≤ key
  · have d1 : decide (key ≥ (z : Int)) = true := decide_eq_true hk1
    have d1' : decide ((z : Int) ≤ key) = true := d1
    have HNO : Hid (¬ (0 ≤ key ∧ key < G.sz ∧ 0 ≤ dAt (allD G seeds) key)) := Lib.hid (by have := HGZ.out; omega)
    clear hk0 hk1
    have HE : Hid (wayD G seeds key = ([], false)) := Lib.hid (by unfold wayD; rw [if_neg HNO.out])
    go_wp2_with fail
    go_ret2
    rw [HE.out]
    exact ⟨none, 0, 0, rfl, Row.nilRow _ _, HBW.out⟩
  have d1 : decide (key ≥ (z : Int)) = false := decide_eq_false hk1
  have d1' : decide ((z : Int) ≤ key) = false := d1
  obtain ⟨nk, hnk⟩ : ∃ nk : Nat, key = (nk : Int) := ⟨key.toNat, by omega⟩
  have hn1 : (nk : Int) < (z : Int) := by omega
  have hdl : nk < d.length := by rw [HSR.out.len]; omega
  have hdc := HDS.out.cell nk hdl
  rw [dAt_cell hdl] at hdc
  subst hnk
  have HLO := Lib.hid (HSR.out.low (nk : Int) (by omega) hn1)
  clear hk0 hk1
  by_cases hun : dAt d (nk : Int) = -1
  · have b0 : (dAt d (nk : Int) == -1) = true := by rw [hun]; rfl
    have HNO : Hid (¬ (0 ≤ (nk : Int) ∧ (nk : Int) < G.sz ∧ 0 ≤ dAt (allD G seeds) (nk : Int))) := Lib.hid (by rw [← HD.out]; omega)
    clear hun HLO
    generalize dAt d (nk : Int) = dv at *
    have HE : Hid (wayD G seeds (nk : Int) = ([], false)) := Lib.hid (by unfold wayD; rw [if_neg HNO.out])
    go_wp2_with fail
    go_ret2
    rw [HE.out]
    exact ⟨none, 0, 0, rfl, Row.nilRow _ _, HBW.out⟩
  have b0 : (dAt d (nk : Int) == -1) = false := by rw [beq_eq_false_iff_ne]; exact hun
  obtain ⟨n, hn⟩ : ∃ n : Nat, dAt d (nk : Int) = (n : Int) := ⟨(dAt d (nk : Int)).toNat, by have := HLO.out; omega⟩
  have HN := Lib.hid hn
  have HE : Hid (wayD G seeds (nk : Int) = ((bkL bf (nk : Int) n).reverse, true)) := Lib.hid (by
    unfold wayD
    rw [← HD.out, HZZ.out, if_pos ⟨by omega, by have := HGZ.out; omega, by omega⟩, HSR.out.upto HIZ.out (by omega) hn1 hn, hn, Int.toNat_natCast])
  have HIN : Hid (∀ m, m ≤ n → 0 ≤ bk bf (nk : Int) m ∧ bk bf (nk : Int) m < z ∧ dAt d (bk bf (nk : Int) m) = ((n - m : Nat) : Int)) := Lib.hid fun m hm => HSR.out.bkin (by omega) hn1 hn m hm
  have hnz : n ≤ 64 := by
    have h1 := (HSR.out.dist rfl).lt (k := (nk : Int)) (by omega) hn1
    omega
  have HBK : Hid (∀ m, bk bf (nk : Int) (m + 1) = bfAt bf (bk bf (nk : Int) m)) := Lib.hid fun m => rfl
  have HB0 : Hid (bk bf (nk : Int) 0 = (nk : Int)) := Lib.hid rfl
  have HL0 : Hid (bkL bf (nk : Int) 0 = [(nk : Int)]) := Lib.hid rfl
  have HLS : Hid (∀ m, bkL bf (nk : Int) (m + 1) = bkL bf (nk : Int) m ++ [bk bf (nk : Int) (m + 1)]) := Lib.hid fun m => bkL_snoc _ _ m
  have HLL : Hid (∀ m, (bkL bf (nk : Int) m).length = m + 1) := Lib.hid fun m => bkL_len _ _ m
  have HBL : Hid (bf.length = z) := Lib.hid HSR.out.blen
  have HDL : Hid (d.length = z) := Lib.hid HSR.out.len
  have hzlt : nk < z := by omega
  have d1n : decide (z ≤ nk) = false := decide_eq_false (by omega)
  clear hun HLO HSR HIZ hn
  generalize dAt d (nk : Int) = dv at *
  generalize bkL bf (nk : Int) = BL at *
  generalize bk bf (nk : Int) = BK at *
  go_upto_region 4 with fail
  clear hdc d0 d1 d1' d1n b0
  have HOW : Hid ((w1.alloc (.cells #[.int .i64 (nk : Int)] 3)).ownsRow w1.heap.size 3 1 (.slice (some ⟨w1.heap.size, 0, none⟩) 1 1) 1 (intsV (BL 0))) := Lib.hid (by rw [HL0.out]; exact World.ownsRow_lit w1 #[.int .i64 (nk : Int)] 1 (Nat.le_refl _) (by unfold maxLen; omega) rfl)
  have HBA := Lib.hid (one_new w1 (.cells #[.int .i64 (nk : Int)] 3))
  go_wp2_with fail
  generalize w1.alloc (.cells #[.int .i64 (nk : Int)] 3) = x0 at *
  generalize hq1 : w1.heap.size = q1 at *
  have HQ1 := Lib.hid hq1
  clear hq1
  go_loopg [2, 10] n (fun kx a v wr => ∃ m : Nat, m ≤ n ∧ n - m ≤ kx ∧ a = .int .i64 (BK m) ∧ Hid (wr.ownsRow q1 3 1 v (m + 1) (intsV (BL m)) ∧ Below q1 w1 wr ∧ q1 ≤ wr.heap.size))
  case atStart => exact ⟨0, Nat.zero_le _, Nat.le_refl _, by rw [HB0.out], Lib.hid ⟨HOW.out, HBA.out, by have := HBA.out.size; have := HQ1.out; omega⟩⟩
  case round =>
    clear HOW HBA
    obtain ⟨m, hm, hkx, rfl, HQ⟩ := hrel
    have HO := Lib.hid HQ.out.1
    have HBr := Lib.hid HQ.out.2.1
    have HSr := Lib.hid HQ.out.2.2
    clear HQ
    have HIM := Lib.hid (HIN.out m hm)
    have hin := HIM.out
    obtain ⟨nb, hnb⟩ : ∃ nb : Nat, BK m = (nb : Int) := ⟨(BK m).toNat, by omega⟩
    have HDr : Hid (IBlk wr gd d) := Lib.hid (HDS.out.keep (HBr.out.block gd HLT.out.1))
    have HBFr : Hid (IBlk wr gb bf) := Lib.hid (HBF.out.keep (HBr.out.block gb HLT.out.2))
    obtain ⟨r, hr⟩ : ∃ r, n - m = r := ⟨_, rfl⟩
    have hnz2 : (nb : Int) < (z : Int) := by omega
    have hd3 : d.getD nb 0 = (r : Int) := by
      rw [dAt_cell (by have := HDL.out; omega), ← hnb, hin.2.2, hr]
    have hdc := HDr.out.cell nb (by have := HDL.out; omega)
    rw [hd3] at hdc
    have hbc := HBFr.out.cell nb (by have := HBL.out; omega)
    have hb3 : bf.getD nb 0 = BK (m + 1) := by
      rw [HBK.out m, hnb]
      unfold bfAt
      rw [Int.toNat_natCast]
    rw [hb3] at hbc
    rw [hnb]
    have HRM := Lib.hid hr
    have HNB := Lib.hid hnb
    clear hd3 hb3 hin hr hnb
    by_cases h0 : 0 < r
    · have h01 : (r : Int) > 0 := by omega
      have h02 : (0 : Int) < (r : Int) := by omega
      have HMN : Hid (m < n) := Lib.hid (by have := HRM.out; omega)
      have hm1 : m + 1 ≤ 64 := by have := HMN.out; omega
      have hsr := HSr.out
      obtain ⟨A9, c9, hv9, -⟩ := Row.of_own HO.out
      subst hv9
      have HLSm := Lib.hid (HLS.out m)
      generalize hkn : BK (m + 1) = kn at *
      have HKN := Lib.hid hkn
      clear hkn
      go_wp2_with (at_builtin; go_must (refine wpList_app_new wr rfl (.tmp 43) (.tmp 45) 22 3 rfl q1 Try.underlying22 i64_info rfl _ (m + 1) (intsV (BL m)) HO.out rfl 1 #[.int .i64 kn] rfl (by simp [Value.oneCell']) rfl rfl (by unfold maxLen; omega) (by omega) hsr ?_); intro v3 w3 ho3 hb3; have HO3 := Lib.hid ho3; have HB3 : Hid (Below q1 w1 w3) := Lib.hid (HBr.out.trans hb3); have HS3 : Hid (q1 ≤ w3.heap.size) := Lib.hid (Nat.le_trans hsr hb3.size); clear ho3 hb3)
      go_roundg (n - (m + 1))
      case measure => have := HMN.out; omega
      case rel => exact ⟨m + 1, HMN.out, Nat.le_refl _, by rw [HKN.out], Lib.hid ⟨by rw [HLSm.out, intsV_app]; exact HO3.out, HB3.out, HS3.out⟩⟩
    · have h01 : ¬ (r : Int) > 0 := by omega
      have h02 : ¬ (0 : Int) < (r : Int) := by omega
      have hmn : m = n := by have := HRM.out; omega
      subst hmn
      obtain ⟨g9, c9, hv9⟩ := own_someI HO.out (Nat.succ_pos _)
      subst hv9
      have HG9 : Hid (q1 ≤ g9) := Lib.hid (own_ge HO.out g9 rfl)
      have HRV := Lib.hid (reverse_any q1 g9 (m + 1) c9 (BL m) wr HO.out (by omega) (Nat.succ_pos _))
      clear hbc
      go_wp2_with fail
      refine HRV.out.mono ?_
      rintro e w5 ⟨rfl, ho5, hb5⟩
      have HR5 := Lib.hid (own_rowI12 ho5)
      have HB5 : Hid (Below w.heap.size w w5) := Lib.hid (HBW.out.trans ((HBr.out.trans (hb5.below HG9.out HSr.out)).mono (by have := HBW.out.size; have := HQ1.out; omega)))
      clear ho5 hb5 HRV
      go_wp2_with fail
      go_ret2
      rw [HE.out]
      exact ⟨_, _, _, rfl, HR5.out, HB5.out⟩
end Go.Proofs.Ytikmffdmgnjpbaa
