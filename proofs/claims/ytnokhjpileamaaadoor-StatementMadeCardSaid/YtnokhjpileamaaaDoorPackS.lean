import Derived.Test.YtnokhjpileamaaaDoorPackN
import Derived.Test.YtnokhjpileamaaaDoorPackA
import Derived.Deep.CutBlock
import Derived.Deep.DeepCutAuto
import Derived.Test.YtnokhjpileamaaaDoorCards
import Derived.Test.YtnokhjpileamaaaDoorTie
import Derived.ProofKit
import Derived.LaidMore
import Derived.OpenShut
import Derived.Stop.Joined
import Derived.SevenTiedAt
import Derived.Lib.LaidTab
/- The walk of trustflowlaw03.StatementMade. -/
namespace Go.Proofs.YtnokhjpileamaaaDoor
open Go.RowKit
theorem pinBs_len (p : PinD) : (pinBs p).length = 24 + p.digest.size := by
  simp only [pinBs, List.length_append, listB_len, textS_len]
  show 8 * 2 + _ = _
  omega
theorem seal_fields (s : Stm) : (sealOf s).prev = s.prev ∧ (sealOf s).list = s.list ∧ (sealOf s).pins = s.pins ∧ (sealOf s).body = s.body ∧ (sealOf s).dig.size = 32 := ⟨rfl, rfl, rfl, rfl, digS_size s⟩
/-- Behind the change: the statement as it was, and the other one, whatever it is. -/
def SwEnd (w : World) (S8 S9 : Nat) (s : Stm) (A : Option Addr) (n c : Nat) (B : Option Addr) (m k : Nat) (x : World) : Prop :=
  ∃ (o : Stm) (A2 : Option Addr) (n2 c2 : Nat) (B2 : Option Addr) (m2 k2 : Nat), Below w.heap.size w x ∧ S8 < x.heap.size ∧ S9 < x.heap.size ∧ x.heap[S8]? = some (.cells #[.int .i64 s.author, .int .i64 s.number, .string s.prev, .int .i64 s.time, .int .i64 s.kind, .int .i64 s.a, .int .i64 s.b, .int .i64 s.c, (.slice A n c), (.slice B m k), .string s.body, .int .i64 s.key, .string s.dig] 27 (0, 0)) ∧ IRow x A n c s.list ∧ PRow x B m k s.pins ∧
    x.heap[S9]? = some (.cells #[.int .i64 o.author, .int .i64 o.number, .string o.prev, .int .i64 o.time, .int .i64 o.kind, .int .i64 o.a, .int .i64 o.b, .int .i64 o.c, (.slice A2 n2 c2), (.slice B2 m2 k2), .string o.body, .int .i64 o.key, .string o.dig] 27 (0, 0)) ∧ IRow x A2 n2 c2 o.list ∧ PRow x B2 m2 k2 o.pins ∧ Small o
theorem Sw.stop {L D : Nat} {t : List Int} {w : World} {S8 S9 : Nat} {s : Stm} {A : Option Addr} {n c : Nat} {B : Option Addr} {m k : Nat} {cs : Array Value} {vl : Value} {l : List Int} {vp : Value} {ps : List PinD} {x : World} (h : Sw L D t w S8 S9 s A n c B m k cs vl l vp ps x)
    (o : Stm) (hl : o.list = l) (hp : o.pins = ps) (ho : Small o) (hc : ∀ A2 n2 c2 B2 m2 k2, vl = .slice A2 n2 c2 → vp = .slice B2 m2 k2 → cs = #[.int .i64 o.author, .int .i64 o.number, .string o.prev, .int .i64 o.time, .int .i64 o.kind, .int .i64 o.a, .int .i64 o.b, .int .i64 o.c, (.slice A2 n2 c2), (.slice B2 m2 k2), .string o.body, .int .i64 o.key, .string o.dig]) : SwEnd w S8 S9 s A n c B m k x := by
  have h4 := h.lt; have h3 := h.o3
  obtain ⟨A2, c2, rfl, h1⟩ := Row.of_own h.ol
  obtain ⟨B2, k2, rfl, h2⟩ := Row.of_own h.op
  exact ⟨o, A2, _, c2, B2, _, k2, h.bel, by omega, h4, h.sc, h.il, h.pl, by rw [← hc _ _ _ _ _ _ rfl rfl]; exact h.cur, by rw [hl]; exact h1, by rw [hp]; exact h2, ho⟩
theorem own_bytes_row {w : World} {B : Nat} {A : Option Addr} {n c : Nat} {us : List UInt8} (h : BOwn w B (.slice A n c) us) : us.length = n ∧ BRow w A n c us := by
  obtain ⟨A', c', e, hr⟩ := Row.of_own h
  injection e with e1 e2 e3
  subst e1; subst e3
  exact ⟨e2.symm, by rw [e2]; exact hr⟩
theorem own_some {w : World} {B : Nat} {e : TypeId} {sz : Nat} {v : Value} {n : Nat} {xs : List Value} (h : w.ownsRow B e sz v n xs) (hn : 0 < n) : ∃ g c, v = .slice (some ⟨g, 0, none⟩) n c := by
  rcases h.2 with ⟨_, h0⟩ | ⟨g, cap, cur, rfl, _⟩
  · omega
  · exact ⟨g, cap, rfl⟩
theorem own_later {w w' : World} {B : Nat} {e : TypeId} {sz : Nat} {v : Value} {n : Nat} {xs : List Value} (h : w.ownsRow B e sz v n xs) (hb : Below w.heap.size w w') : w'.ownsRow B e sz v n xs :=
  own_keep h fun g hg => hb.block g (World.ownsRow.lt h g hg).2
theorem mod_byte (a : Int) : ∃ nb : UInt8, Value.int .u8 (a % 256) = bv nb := by
  refine ⟨UInt8.ofNat (a % 256).toNat, ?_⟩
  unfold bv w8
  rw [UInt8.toNat_ofNat']
  congr 1
  omega
theorem xor_byte (a b : Int) : ∃ nb : UInt8, Value.int .u8 (bits .xor .u8 a b) = bv nb := by
  unfold bits
  rw [IntKind.wrap_u8']
  exact mod_byte _
/-- Behind the change: both statements stay. -/
structure Tl (w0 : World) (S8 S9 : Nat) (c8 c9 : Array Value) (x : World) : Prop where
  bel : Below w0.heap.size w0 x
  x8 : x.heap[S8]? = some (.cells c8 27 (0, 0))
  x9 : x.heap[S9]? = some (.cells c9 27 (0, 0))
  l8 : S8 < w0.heap.size
  l9 : S9 < w0.heap.size
theorem Tl.below {w0 : World} {S8 S9 : Nat} {c8 c9 : Array Value} {x y : World} (h : Tl w0 S8 S9 c8 c9 x) (hb : Below w0.heap.size x y) : Tl w0 S8 S9 c8 c9 y :=
  ⟨h.bel.trans hb, (hb.block _ h.l8).trans h.x8, (hb.block _ h.l9).trans h.x9, h.l8, h.l9⟩
theorem Tl.later {w0 : World} {S8 S9 : Nat} {c8 c9 : Array Value} {x y : World} (h : Tl w0 S8 S9 c8 c9 x) (hb : Below x.heap.size x y) : Tl w0 S8 S9 c8 c9 y := h.below (hb.mono h.bel.size)
theorem Tl.keep8 {w0 : World} {S8 S9 : Nat} {c8 c9 : Array Value} {x y : World} (h : Tl w0 S8 S9 c8 c9 x) (hb : Later x y) : y.heap[S8]? = x.heap[S8]? := hb.block _ (Nat.lt_of_lt_of_le h.l8 h.bel.size)
theorem Tl.keep9 {w0 : World} {S8 S9 : Nat} {c8 c9 : Array Value} {x y : World} (h : Tl w0 S8 S9 c8 c9 x) (hb : Later x y) : y.heap[S9]? = x.heap[S9]? := hb.block _ (Nat.lt_of_lt_of_le h.l9 h.bel.size)
theorem bytes_set (us : List UInt8) (i : Nat) (b : UInt8) : (bytesV us).set i (bv b) = bytesV (us.set i b) := by simp [bytesV, List.map_set]
theorem bytes_at (us : List UInt8) (i : Nat) (h : i < us.length) : ∃ b : UInt8, (bytesV us)[i]? = some (.int .u8 (w8 b)) := ⟨us[i], by unfold bytesV; rw [List.getElem?_map, List.getElem?_eq_getElem h]; rfl⟩
set_option maxRecDepth 100000 in
set_option maxHeartbeats 40000000 in
theorem made_any (TA : Option Addr) (tn tc : Nat) (t : List Int) (i0 v0 : Int) (w : World) (ht : IRow w TA tn tc t) (hr : Rounds w) :
    Calls Tryd.prog 4 #[.slice TA tn tc, .int .i64 i0, .int .i64 v0] w (SaysL (.bool true) w) := by
  have HAW : Hid (∀ w', Below w.heap.size w w' → Calls Tryd.prog 7 #[] w' (SaysL (.bool true) w')) := Lib.hid fun w' h => awake_any w' (hr.later h)
  have HRR : Hid (∀ w', Below w.heap.size w w' → Rounds w') := Lib.hid fun w' h => hr.later h
  have HT := Lib.hid ht; clear ht hr
  go_enter Tryd.func4, Tryd.ntmps4
  go_wp2_with fail
  refine (light_any TA tn tc w).mono ?_
  rintro e w0 ⟨rfl, rfl⟩
  by_cases hn : tn ≤ 400
  · have g : decide (tn ≤ 400) = true := decide_eq_true hn
    go_wp2_with fail
    clear g
    refine (roll_any w.heap.size TA tn tc t w HT.out (by omega) (Nat.le_refl _) (fun ad e h0 => Row.lt HT.out (by decide) ad e h0)).mono ?_
    rintro e w1 ⟨rfl, hd, hb⟩
    obtain ⟨D, hD⟩ : ∃ D, D = w.heap.size := ⟨_, rfl⟩
    have HD : Hid (∃ k, DiceAt w1 w.heap.size D t k) := Lib.hid ⟨0, by rw [hD]; exact hd⟩
    have HB := Lib.hid hb
    have HDD : Hid (w.heap.size = D) := Lib.hid hD.symm
    rw [← hD]
    clear hd hb hD HT
    go_wp2_with fail
    refine (next_g w.heap.size D t 5 _ HD.out (by omega) (by omega)).mono ?_
    rintro e w2 ⟨x1, rfl, hx0, hx1, hg⟩
    replace HD := Lib.hid hg.1; replace HB := Lib.hid (HB.out.trans (hg.2.below (by have := HDD.out; omega) HB.out.size)); clear hg
    go_wp2_with fail
    refine (next_g w.heap.size D t 100 _ HD.out (by omega) (by omega)).mono ?_
    rintro e w3 ⟨x2, rfl, hy0, hy1, hg⟩
    replace HD := Lib.hid hg.1; replace HB := Lib.hid (HB.out.trans (hg.2.below (by have := HDD.out; omega) HB.out.size)); clear hg
    go_wp2_with fail
    refine (dstm_g w.heap.size D t x1 x2 w3 HD.out (by omega) (by omega)).mono ?_
    rintro e w4 ⟨s0, A0, n0, c0, B0, m0, k0, rfl, hl, hp, hna, hnb, hq1, hq2, hq3, hq4, hq5, hq6, hg⟩
    have HSM : Hid (Small s0) := Lib.hid ⟨by omega, by omega, by omega, by omega, by omega, by omega⟩
    have HQ : Hid (s0.list.length ≤ 2 ∧ s0.pins.length ≤ 1 ∧ (pinsBs s0.pins).length ≤ 56 ∧ s0.body.size ≤ 5 ∧ s0.prev.size = 0) := Lib.hid ⟨hq1, hq2, hq3, hq4, hq5⟩
    replace HD := Lib.hid hg.1; replace HB := Lib.hid (HB.out.trans (hg.2.below (by have := HDD.out; omega) HB.out.size))
    have HL := Lib.hid hl; have HP := Lib.hid hp
    clear hg hl hp hna hnb hq1 hq2 hq3 hq4 hq5 hq6
    go_wp2_with fail
    refine (refSeal_any s0 A0 n0 c0 B0 m0 k0 w4 HL.out HP.out HSM.out).mono ?_
    have HQ2 : Hid ((sealOf s0).list.length ≤ 2 ∧ (sealOf s0).pins.length ≤ 1 ∧ (pinsBs (sealOf s0).pins).length ≤ 56 ∧ (sealOf s0).body.size ≤ 5 ∧ (sealOf s0).prev.size = 0 ∧ (sealOf s0).dig.size = 32) := Lib.hid ⟨HQ.out.1, HQ.out.2.1, HQ.out.2.2.1, HQ.out.2.2.2.1, HQ.out.2.2.2.2, digS_size s0⟩
    clear HSM HQ HL HP
    generalize sealOf s0 = s at HQ2 ⊢
    generalize stmV s0 A0 n0 c0 B0 m0 k0 = z0
    clear s0 A0 n0 c0 B0 m0 k0
    rintro e w5 ⟨A, n, c, B, m, k, rfl, hl, hp, hna, hnb, hb⟩
    unfold stmV
    have hn3 : n ≤ 1000 := by have h1 := HQ2.out.1; have h2 : s.list.length = n := hl.len; omega
    have hm3 : m ≤ 1000 := by have h1 := HQ2.out.2.1; have h2 : s.pins.length = m := hp.len; omega
    have HCO := Lib.hid (copy_own s A n c B m k (w5.alloc (.cells #[.int .i64 s.author, .int .i64 s.number, .string s.prev, .int .i64 s.time, .int .i64 s.kind, .int .i64 s.a, .int .i64 s.b, .int .i64 s.c, (.slice A n c), (.slice B m k), .string s.body, .int .i64 s.key, .string s.dig] 27)) (hl.later (one_new _ _)) (hp.later (one_new _ _)) hn3 hm3)
    clear hn3 hm3
    unfold stmV at HCO
    have HL := Lib.hid hl; have HP := Lib.hid hp; have HNA := Lib.hid hna; have HNB := Lib.hid hnb; have HB5 := Lib.hid hb
    clear hl hp hna hnb hb
    go_wp2_with fail
    refine HCO.out.mono ?_
    clear HCO
    rintro e w6 ⟨A2, n2, c2, B2, m2, k2, rfl, ho, hpo, hb6⟩
    have HO := Lib.hid ho; have HPO := Lib.hid hpo; have HB6 := Lib.hid hb6; clear ho hpo hb6
    unfold stmV
    have HSW : Hid (Sw w.heap.size D t w w5.heap.size w6.heap.size s A n c B m k #[.int .i64 s.author, .int .i64 s.number, .string s.prev, .int .i64 s.time, .int .i64 s.kind, .int .i64 s.a, .int .i64 s.b, .int .i64 s.c, (.slice A2 n2 c2), (.slice B2 m2 k2), .string s.body, .int .i64 s.key, .string s.dig] (.slice A2 n2 c2) s.list (.slice B2 m2 k2) s.pins (w6.alloc (.cells #[.int .i64 s.author, .int .i64 s.number, .string s.prev, .int .i64 s.time, .int .i64 s.kind, .int .i64 s.a, .int .i64 s.b, .int .i64 s.c, (.slice A2 n2 c2), (.slice B2 m2 k2), .string s.body, .int .i64 s.key, .string s.dig] 27))) := Lib.hid (by
      have g5 := HB.out.trans (HB5.out.mono HB.out.size)
      have g6 := g5.trans ((one_new w5 (.cells #[.int .i64 s.author, .int .i64 s.number, .string s.prev, .int .i64 s.time, .int .i64 s.kind, .int .i64 s.a, .int .i64 s.b, .int .i64 s.c, (.slice A n c), (.slice B m k), .string s.body, .int .i64 s.key, .string s.dig] 27)).mono g5.size)
      have g7 := g6.trans (HB6.out.mono g6.size)
      have g8 := g7.trans ((one_new w6 (.cells #[.int .i64 s.author, .int .i64 s.number, .string s.prev, .int .i64 s.time, .int .i64 s.kind, .int .i64 s.a, .int .i64 s.b, .int .i64 s.c, (.slice A2 n2 c2), (.slice B2 m2 k2), .string s.body, .int .i64 s.key, .string s.dig] 27)).mono g7.size)
      have hs5 : w5.heap.size < (w5.alloc (.cells #[.int .i64 s.author, .int .i64 s.number, .string s.prev, .int .i64 s.time, .int .i64 s.kind, .int .i64 s.a, .int .i64 s.b, .int .i64 s.c, (.slice A n c), (.slice B m k), .string s.body, .int .i64 s.key, .string s.dig] 27)).heap.size := by simp
      have hs6 : w5.heap.size < w6.heap.size := Nat.lt_of_lt_of_le hs5 HB6.out.size
      have hs4 := HB5.out.size
      obtain ⟨q, hq⟩ := HD.out
      have hD4 := hq.lt
      refine ⟨g8, ⟨q, (((hq.later HB5.out).later (one_new _ _)).later HB6.out).later (one_new _ _)⟩, ((one_new w6 _).block _ hs6).trans ((HB6.out.block _ hs5).trans (heap_alloc_new _ _)), ((HL.out.later (one_new _ _)).later HB6.out).later (one_new _ _), ((HP.out.later (one_new _ _)).later HB6.out).later (one_new _ _),
        fun ad e => ⟨(HNA.out ad e).2, by have := (HNA.out ad e).1; omega⟩, fun ad e => ⟨(HNB.out ad e).2, by have := (HNB.out ad e).1; omega⟩, heap_alloc_new _ _, ?_, ?_, by simp, by have := HDD.out; omega, by omega, hs6⟩
      · have h := World.ownsRow.alloc HO.out (.cells #[.int .i64 s.author, .int .i64 s.number, .string s.prev, .int .i64 s.time, .int .i64 s.kind, .int .i64 s.a, .int .i64 s.b, .int .i64 s.c, (.slice A2 n2 c2), (.slice B2 m2 k2), .string s.body, .int .i64 s.key, .string s.dig] 27)
        rw [show (w5.alloc (.cells #[.int .i64 s.author, .int .i64 s.number, .string s.prev, .int .i64 s.time, .int .i64 s.kind, .int .i64 s.a, .int .i64 s.b, .int .i64 s.c, (.slice A n c), (.slice B m k), .string s.body, .int .i64 s.key, .string s.dig] 27)).heap.size = w5.heap.size + 1 by simp] at h
        exact h
      · have h := World.ownsRow.alloc HPO.out (.cells #[.int .i64 s.author, .int .i64 s.number, .string s.prev, .int .i64 s.time, .int .i64 s.kind, .int .i64 s.a, .int .i64 s.b, .int .i64 s.c, (.slice A2 n2 c2), (.slice B2 m2 k2), .string s.body, .int .i64 s.key, .string s.dig] 27)
        rw [show (w5.alloc (.cells #[.int .i64 s.author, .int .i64 s.number, .string s.prev, .int .i64 s.time, .int .i64 s.kind, .int .i64 s.a, .int .i64 s.b, .int .i64 s.c, (.slice A n c), (.slice B m k), .string s.body, .int .i64 s.key, .string s.dig] 27)).heap.size = w5.heap.size + 1 by simp] at h
        exact h)
    clear HO HPO HB6 HB5 HL HP HNA HNB HD HB
    go_wp2_with fail
    refine (next_g w.heap.size D t 14 _ HSW.out.dice (by omega) (by omega)).mono ?_
    generalize w6.alloc (.cells #[.int .i64 s.author, .int .i64 s.number, .string s.prev, .int .i64 s.time, .int .i64 s.kind, .int .i64 s.a, .int .i64 s.b, .int .i64 s.c, (.slice A2 n2 c2), (.slice B2 m2 k2), .string s.body, .int .i64 s.key, .string s.dig] 27) = y6 at HSW ⊢
    generalize w5.heap.size = S8 at HSW ⊢
    generalize w6.heap.size = S9 at HSW ⊢
    clear w5 w6
    rintro e w7 ⟨K, rfl, hK0, hK1, hg⟩
    replace HSW := Lib.hid (HSW.out.gave hg); clear hg
    generalize Value.agg #[.int .i64 s.author, .int .i64 s.number, .string s.prev, .int .i64 s.time, .int .i64 s.kind, .int .i64 s.a, .int .i64 s.b, .int .i64 s.c, (.slice A n c), (.slice B m k), .string s.body, .int .i64 s.key, .string s.dig] = z1
    generalize Value.agg #[.int .i64 s.author, .int .i64 s.number, .string s.prev, .int .i64 s.time, .int .i64 s.kind, .int .i64 s.a, .int .i64 s.b, .int .i64 s.c, (.slice A2 n2 c2), (.slice B2 m2 k2), .string s.body, .int .i64 s.key, .string s.dig] = z2
    have HSM2 : Hid (Small s) := Lib.hid (by have q := HQ2.out; exact ⟨by omega, by omega, by omega, by omega, by omega, by omega⟩)
    clear hx0 hx1 hy0 hy1 hn
    go_upto_block 0 with fail
    go_cut [] (fun wx => Hid (SwEnd w S8 S9 s A n c B m k wx))
    case first =>
      have hK : K = 0 ∨ K = 1 ∨ K = 2 ∨ K = 3 ∨ K = 4 ∨ K = 5 ∨ K = 6 ∨ K = 7 ∨ K = 8 ∨ K = 9 ∨ K = 10 ∨ K = 11 ∨ K = 12 ∨ K = 13 := by omega
      clear hK0 hK1
      rcases hK with rfl | rfl | rfl | rfl | rfl | rfl | rfl | rfl | rfl | rfl | rfl | rfl | rfl | rfl
      · have hf0 : w7.frozen? ⟨S9, 0, none⟩ = false := frozen_of_row _ _ _ _ _ HSW.out.cur
        have hc0 : w7.cell? ⟨S9, 0, none⟩ = some (.int .i64 s.author) := (cell_of_row _ _ _ _ _ _ HSW.out.cur).trans rfl
        replace HSW := Lib.hid (HSW.out.set 0 (.int .i64 v0))
        go_wp2_with fail
        go_meet
        have hs := HSM2.out
        exact Lib.hid (HSW.out.stop { s with author := v0 } rfl rfl ⟨hs.prev, hs.list, hs.pins, hs.all, hs.body, hs.dig⟩ (fun A3 n3 c3 B3 m3 k3 e1 e2 => by cases e1; cases e2; rfl))
      · have hlow : D < w7.heap.size := by have h1 := HSW.out.o2; have h2 := HSW.out.o3; have h3 := HSW.out.lt; omega
        have HR : Hid (Row (w7.alloc (.cells #[.int .i64 1, .int .i64 199, .int .i64 200, .int .i64 (-1)] 3)) (some ⟨w7.heap.size, 0, none⟩) 4 4 1 (intsV [1, 199, 200, (-1)])) := Lib.hid (Row.of_block (cs := (intsV [1, 199, 200, (-1)]).toArray) (heap_alloc_new _ _) rfl)
        replace HSW := Lib.hid (HSW.out.later (one_new w7 (.cells #[.int .i64 1, .int .i64 199, .int .i64 200, .int .i64 (-1)] 3)))
        go_wp2_with fail
        refine (of_g w.heap.size D t (some ⟨w7.heap.size, 0, none⟩) 4 4 [1, 199, 200, (-1)] (w7.alloc (.cells #[.int .i64 1, .int .i64 199, .int .i64 200, .int .i64 (-1)] 3)) HSW.out.dice HR.out (fun ad e => by injection e with e; subst e; show w7.heap.size ≠ D; omega) (by omega) (by omega)).mono ?_
        generalize w7.alloc (.cells #[.int .i64 1, .int .i64 199, .int .i64 200, .int .i64 (-1)] 3) = z at HSW ⊢
        clear HR hlow
        rintro e w8 ⟨x, rfl, hin, hg⟩
        replace HSW := Lib.hid (HSW.out.gave hg); clear hg hin
        have hf1 : w8.frozen? ⟨S9, 1, none⟩ = false := frozen_of_row _ _ _ _ _ HSW.out.cur
        have hc1 : w8.cell? ⟨S9, 1, none⟩ = some (.int .i64 s.number) := (cell_of_row _ _ _ _ _ _ HSW.out.cur).trans rfl
        replace HSW := Lib.hid (HSW.out.set 1 (.int .i64 x))
        go_wp2_with fail
        go_meet
        have hs := HSM2.out
        exact Lib.hid (HSW.out.stop { s with number := x } rfl rfl ⟨hs.prev, hs.list, hs.pins, hs.all, hs.body, hs.dig⟩ (fun A3 n3 c3 B3 m3 k3 e1 e2 => by cases e1; cases e2; rfl))
      · go_wp2_with fail
        refine (ddigest_g w.heap.size D t _ HSW.out.dice).mono ?_
        rintro e w8 ⟨x, rfl, hx, hg⟩
        replace HSW := Lib.hid (HSW.out.gave hg); clear hg
        have HX := Lib.hid hx; clear hx
        have hf2 : w8.frozen? ⟨S9, 2, none⟩ = false := frozen_of_row _ _ _ _ _ HSW.out.cur
        have hc2 : w8.cell? ⟨S9, 2, none⟩ = some (.string s.prev) := (cell_of_row _ _ _ _ _ _ HSW.out.cur).trans rfl
        replace HSW := Lib.hid (HSW.out.set 2 (.string x))
        go_wp2_with fail
        go_meet
        have hs := HSM2.out
        exact Lib.hid (HSW.out.stop { s with prev := x } rfl rfl ⟨Nat.le_trans (Nat.le_of_eq HX.out) (by decide), hs.list, hs.pins, hs.all, hs.body, hs.dig⟩ (fun A3 n3 c3 B3 m3 k3 e1 e2 => by cases e1; cases e2; rfl))
      · have hlow : D < w7.heap.size := by have h1 := HSW.out.o2; have h2 := HSW.out.o3; have h3 := HSW.out.lt; omega
        have HR : Hid (Row (w7.alloc (.cells #[.int .i64 v0, .int .i64 2147483648, .int .i64 2147483649] 3)) (some ⟨w7.heap.size, 0, none⟩) 3 3 1 (intsV [v0, 2147483648, 2147483649])) := Lib.hid (Row.of_block (cs := (intsV [v0, 2147483648, 2147483649]).toArray) (heap_alloc_new _ _) rfl)
        replace HSW := Lib.hid (HSW.out.later (one_new w7 (.cells #[.int .i64 v0, .int .i64 2147483648, .int .i64 2147483649] 3)))
        go_wp2_with fail
        refine (of_g w.heap.size D t (some ⟨w7.heap.size, 0, none⟩) 3 3 [v0, 2147483648, 2147483649] (w7.alloc (.cells #[.int .i64 v0, .int .i64 2147483648, .int .i64 2147483649] 3)) HSW.out.dice HR.out (fun ad e => by injection e with e; subst e; show w7.heap.size ≠ D; omega) (by omega) (by omega)).mono ?_
        generalize w7.alloc (.cells #[.int .i64 v0, .int .i64 2147483648, .int .i64 2147483649] 3) = z at HSW ⊢
        clear HR hlow
        rintro e w8 ⟨x, rfl, hin, hg⟩
        replace HSW := Lib.hid (HSW.out.gave hg); clear hg hin
        have hf3 : w8.frozen? ⟨S9, 3, none⟩ = false := frozen_of_row _ _ _ _ _ HSW.out.cur
        have hc3 : w8.cell? ⟨S9, 3, none⟩ = some (.int .i64 s.time) := (cell_of_row _ _ _ _ _ _ HSW.out.cur).trans rfl
        replace HSW := Lib.hid (HSW.out.set 3 (.int .i64 x))
        go_wp2_with fail
        go_meet
        have hs := HSM2.out
        exact Lib.hid (HSW.out.stop { s with time := x } rfl rfl ⟨hs.prev, hs.list, hs.pins, hs.all, hs.body, hs.dig⟩ (fun A3 n3 c3 B3 m3 k3 e1 e2 => by cases e1; cases e2; rfl))
      · go_wp2_with fail
        refine (mod_any v0 34 _ (by omega) (by omega)).mono ?_
        rintro e w8 ⟨rfl, rfl⟩
        generalize modF v0 34 = x
        have hf4 : w7.frozen? ⟨S9, 4, none⟩ = false := frozen_of_row _ _ _ _ _ HSW.out.cur
        have hc4 : w7.cell? ⟨S9, 4, none⟩ = some (.int .i64 s.kind) := (cell_of_row _ _ _ _ _ _ HSW.out.cur).trans rfl
        replace HSW := Lib.hid (HSW.out.set 4 (.int .i64 x))
        go_wp2_with fail
        go_meet
        have hs := HSM2.out
        exact Lib.hid (HSW.out.stop { s with kind := x } rfl rfl ⟨hs.prev, hs.list, hs.pins, hs.all, hs.body, hs.dig⟩ (fun A3 n3 c3 B3 m3 k3 e1 e2 => by cases e1; cases e2; rfl))
      · have hc0 : w7.cell? ⟨S9, 0, none⟩ = some (.int .i64 s.author) := (cell_of_row _ _ _ _ _ _ HSW.out.cur).trans rfl
        have hlow : D < w7.heap.size := by have h1 := HSW.out.o2; have h2 := HSW.out.o3; have h3 := HSW.out.lt; omega
        have HR : Hid (Row (w7.alloc (.cells #[.int .i64 v0, .int .i64 63, .int .i64 64, .int .i64 s.author] 3)) (some ⟨w7.heap.size, 0, none⟩) 4 4 1 (intsV [v0, 63, 64, s.author])) := Lib.hid (Row.of_block (cs := (intsV [v0, 63, 64, s.author]).toArray) (heap_alloc_new _ _) rfl)
        replace HSW := Lib.hid (HSW.out.later (one_new w7 (.cells #[.int .i64 v0, .int .i64 63, .int .i64 64, .int .i64 s.author] 3)))
        go_wp2_with fail
        refine (of_g w.heap.size D t (some ⟨w7.heap.size, 0, none⟩) 4 4 [v0, 63, 64, s.author] (w7.alloc (.cells #[.int .i64 v0, .int .i64 63, .int .i64 64, .int .i64 s.author] 3)) HSW.out.dice HR.out (fun ad e => by injection e with e; subst e; show w7.heap.size ≠ D; omega) (by omega) (by omega)).mono ?_
        generalize w7.alloc (.cells #[.int .i64 v0, .int .i64 63, .int .i64 64, .int .i64 s.author] 3) = z at HSW ⊢
        clear HR hlow
        rintro e w8 ⟨x, rfl, hin, hg⟩
        replace HSW := Lib.hid (HSW.out.gave hg); clear hg hin
        clear hc0
        have hf5 : w8.frozen? ⟨S9, 5, none⟩ = false := frozen_of_row _ _ _ _ _ HSW.out.cur
        have hc5 : w8.cell? ⟨S9, 5, none⟩ = some (.int .i64 s.a) := (cell_of_row _ _ _ _ _ _ HSW.out.cur).trans rfl
        replace HSW := Lib.hid (HSW.out.set 5 (.int .i64 x))
        go_wp2_with fail
        go_meet
        have hs := HSM2.out
        exact Lib.hid (HSW.out.stop { s with a := x } rfl rfl ⟨hs.prev, hs.list, hs.pins, hs.all, hs.body, hs.dig⟩ (fun A3 n3 c3 B3 m3 k3 e1 e2 => by cases e1; cases e2; rfl))
      · have hlow : D < w7.heap.size := by have h1 := HSW.out.o2; have h2 := HSW.out.o3; have h3 := HSW.out.lt; omega
        have HR : Hid (Row (w7.alloc (.cells #[.int .i64 0, .int .i64 3, .int .i64 4, .int .i64 v0] 3)) (some ⟨w7.heap.size, 0, none⟩) 4 4 1 (intsV [0, 3, 4, v0])) := Lib.hid (Row.of_block (cs := (intsV [0, 3, 4, v0]).toArray) (heap_alloc_new _ _) rfl)
        replace HSW := Lib.hid (HSW.out.later (one_new w7 (.cells #[.int .i64 0, .int .i64 3, .int .i64 4, .int .i64 v0] 3)))
        go_wp2_with fail
        refine (of_g w.heap.size D t (some ⟨w7.heap.size, 0, none⟩) 4 4 [0, 3, 4, v0] (w7.alloc (.cells #[.int .i64 0, .int .i64 3, .int .i64 4, .int .i64 v0] 3)) HSW.out.dice HR.out (fun ad e => by injection e with e; subst e; show w7.heap.size ≠ D; omega) (by omega) (by omega)).mono ?_
        generalize w7.alloc (.cells #[.int .i64 0, .int .i64 3, .int .i64 4, .int .i64 v0] 3) = z at HSW ⊢
        clear HR hlow
        rintro e w8 ⟨x, rfl, hin, hg⟩
        replace HSW := Lib.hid (HSW.out.gave hg); clear hg hin
        have hf6 : w8.frozen? ⟨S9, 6, none⟩ = false := frozen_of_row _ _ _ _ _ HSW.out.cur
        have hc6 : w8.cell? ⟨S9, 6, none⟩ = some (.int .i64 s.b) := (cell_of_row _ _ _ _ _ _ HSW.out.cur).trans rfl
        replace HSW := Lib.hid (HSW.out.set 6 (.int .i64 x))
        go_wp2_with fail
        go_meet
        have hs := HSM2.out
        exact Lib.hid (HSW.out.stop { s with b := x } rfl rfl ⟨hs.prev, hs.list, hs.pins, hs.all, hs.body, hs.dig⟩ (fun A3 n3 c3 B3 m3 k3 e1 e2 => by cases e1; cases e2; rfl))
      · have hc3 : w7.cell? ⟨S9, 3, none⟩ = some (.int .i64 s.time) := (cell_of_row _ _ _ _ _ _ HSW.out.cur).trans rfl
        have hlow : D < w7.heap.size := by have h1 := HSW.out.o2; have h2 := HSW.out.o3; have h3 := HSW.out.lt; omega
        have HR : Hid (Row (w7.alloc (.cells #[.int .i64 v0, .int .i64 s.time, .int .i64 (wrap64 (s.time - 1)), .int .i64 2147483648, .int .i64 1099511627776] 3)) (some ⟨w7.heap.size, 0, none⟩) 5 5 1 (intsV [v0, s.time, (wrap64 (s.time - 1)), 2147483648, 1099511627776])) := Lib.hid (Row.of_block (cs := (intsV [v0, s.time, (wrap64 (s.time - 1)), 2147483648, 1099511627776]).toArray) (heap_alloc_new _ _) rfl)
        replace HSW := Lib.hid (HSW.out.later (one_new w7 (.cells #[.int .i64 v0, .int .i64 s.time, .int .i64 (wrap64 (s.time - 1)), .int .i64 2147483648, .int .i64 1099511627776] 3)))
        go_wp2_with fail
        refine (of_g w.heap.size D t (some ⟨w7.heap.size, 0, none⟩) 5 5 [v0, s.time, (wrap64 (s.time - 1)), 2147483648, 1099511627776] (w7.alloc (.cells #[.int .i64 v0, .int .i64 s.time, .int .i64 (wrap64 (s.time - 1)), .int .i64 2147483648, .int .i64 1099511627776] 3)) HSW.out.dice HR.out (fun ad e => by injection e with e; subst e; show w7.heap.size ≠ D; omega) (by omega) (by omega)).mono ?_
        generalize w7.alloc (.cells #[.int .i64 v0, .int .i64 s.time, .int .i64 (wrap64 (s.time - 1)), .int .i64 2147483648, .int .i64 1099511627776] 3) = z at HSW ⊢
        clear HR hlow
        rintro e w8 ⟨x, rfl, hin, hg⟩
        replace HSW := Lib.hid (HSW.out.gave hg); clear hg hin
        clear hc3
        have hf7 : w8.frozen? ⟨S9, 7, none⟩ = false := frozen_of_row _ _ _ _ _ HSW.out.cur
        have hc7 : w8.cell? ⟨S9, 7, none⟩ = some (.int .i64 s.c) := (cell_of_row _ _ _ _ _ _ HSW.out.cur).trans rfl
        replace HSW := Lib.hid (HSW.out.set 7 (.int .i64 x))
        go_wp2_with fail
        go_meet
        have hs := HSM2.out
        exact Lib.hid (HSW.out.stop { s with c := x } rfl rfl ⟨hs.prev, hs.list, hs.pins, hs.all, hs.body, hs.dig⟩ (fun A3 n3 c3 B3 m3 k3 e1 e2 => by cases e1; cases e2; rfl))
      · go_wp2_with fail
        refine (next_g w.heap.size D t 2 _ HSW.out.dice (by omega) (by omega)).mono ?_
        rintro e w8 ⟨x, rfl, hx0, hx1, hg⟩
        replace HSW := Lib.hid (HSW.out.gave hg); clear hg
        go_wp2_with fail
        go_loopw [10] (fun i wr => ∃ j : Nat, i = .int .i64 j ∧ ∃ (A4 : Option Addr) (n4 c4 : Nat) (l : List Int), l.length + j ≤ 67 ∧ Hid (Sw w.heap.size D t w S8 S9 s A n c B m k #[.int .i64 s.author, .int .i64 s.number, .string s.prev, .int .i64 s.time, .int .i64 s.kind, .int .i64 s.a, .int .i64 s.b, .int .i64 s.c, (.slice A4 n4 c4), (.slice B2 m2 k2), .string s.body, .int .i64 s.key, .string s.dig] (.slice A4 n4 c4) l (.slice B2 m2 k2) s.pins wr)) (fun i _ => (intOf i).toNat)
        case atStart => exact ⟨(64 + x).toNat, by go_num, A2, n2, c2, s.list, by have h := HQ2.out.1; omega, HSW⟩
        case round =>
          clear HSW
          obtain ⟨j, rfl, A4, n4, c4, l, hlj, HSW⟩ := hrel
          by_cases hlt : 0 < j
          · have hc8 : wr.cell? ⟨S9, 8, none⟩ = some (.slice A4 n4 c4) := (cell_of_row _ _ _ _ _ _ HSW.out.cur).trans rfl
            go_wp2_with (at_builtin; go_must (refine wpList_app_newK wr rfl (.tmp 107) (.tmp 109) 22 3 rfl (S8 + 1) Tryd.underlying22 i64_info rfl _ _ _ HSW.out.ol rfl 1 #[.int .i64 (j : Int)] rfl (by simp [Value.oneCell']) rfl rfl (by have h := hlj; unfold maxLen; omega) (by have h := hlj; omega) (by have h1 := HSW.out.o3; have h2 := HSW.out.lt; omega) ?_); intro v3 w9 ho hb hk1 hk2; clear hc8; obtain ⟨A3, c3, hv3, hr3⟩ := Row.of_own ho; subst hv3; replace HSW := Lib.hid (HSW.out.list hb hk1 (vl' := .slice A3 (l.length + 1) c3) (l' := l ++ [(j : Int)]) (by unfold IOwn; rw [intsV_app, List.length_append]; exact ho)); clear ho hb hk1 hk2 hr3; have hf8 : w9.frozen? ⟨S9, 8, none⟩ = false := frozen_of_row _ _ _ _ _ HSW.out.cur; have hc8 : w9.cell? ⟨S9, 8, none⟩ = some (.slice A4 n4 c4) := (cell_of_row _ _ _ _ _ _ HSW.out.cur).trans rfl)
            clear hf8 hc8
            replace HSW := Lib.hid (HSW.out.set 8 (.slice A3 (l.length + 1) c3))
            refine ⟨⟨j - 1, by go_num, A3, l.length + 1, c3, l ++ [(j : Int)], by rw [List.length_append]; show l.length + 1 + (j - 1) ≤ 67; omega, HSW⟩, by simp [intOf]; omega⟩
          · have hj0 : j = 0 := by omega
            subst hj0
            go_wp2_with fail
            go_meet
            have hs := HSM2.out
            exact Lib.hid (HSW.out.stop { s with list := l } rfl rfl ⟨hs.prev, Nat.le_trans hlj (by decide), hs.pins, hs.all, hs.body, hs.dig⟩ (fun A3 n3 c3 B3 m3 k3 e1 e2 => by cases e1; cases e2; rfl))
      · have hc8 : w7.cell? ⟨S9, 8, none⟩ = some (.slice A2 n2 c2) := (cell_of_row _ _ _ _ _ _ HSW.out.cur).trans rfl
        go_wp2_with (at_builtin; go_must (refine wpList_app_newK w7 rfl (.tmp 115) (.tmp 117) 22 3 rfl (S8 + 1) Tryd.underlying22 i64_info rfl _ _ _ HSW.out.ol rfl 1 #[.int .i64 v0] rfl (by simp [Value.oneCell']) rfl rfl (by have h := HQ2.out.1; unfold maxLen; omega) (by have h := HQ2.out.1; omega) (by have h1 := HSW.out.o3; have h2 := HSW.out.lt; omega) ?_); intro v3 w8 ho hb hk1 hk2; clear hc8; obtain ⟨A3, c3, hv3, hr3⟩ := Row.of_own ho; subst hv3; replace HSW := Lib.hid (HSW.out.list hb hk1 (vl' := .slice A3 (s.list.length + 1) c3) (l' := s.list ++ [v0]) (by unfold IOwn; rw [intsV_app, List.length_append]; exact ho)); clear ho hb hk1 hk2 hr3; have hf8 : w8.frozen? ⟨S9, 8, none⟩ = false := frozen_of_row _ _ _ _ _ HSW.out.cur; have hc8 : w8.cell? ⟨S9, 8, none⟩ = some (.slice A2 n2 c2) := (cell_of_row _ _ _ _ _ _ HSW.out.cur).trans rfl)
        clear hf8 hc8
        replace HSW := Lib.hid (HSW.out.set 8 (.slice A3 (s.list.length + 1) c3))
        go_meet
        have hs := HSM2.out
        exact Lib.hid (HSW.out.stop { s with list := s.list ++ [v0] } rfl rfl ⟨hs.prev, Nat.le_trans (Nat.le_of_eq List.length_append) (Nat.le_trans (Nat.succ_le_succ HQ2.out.1) (by decide)), hs.pins, hs.all, hs.body, hs.dig⟩ (fun A3 n3 c3 B3 m3 k3 e1 e2 => by cases e1; cases e2; rfl))
      · as_aux_lemma =>
          go_wp2_with fail
          go_loopw [11] (fun i wr => ∃ j : Nat, i = .int .i64 j ∧ j ≤ 65 ∧ ∃ (B4 : Option Addr) (m4 k4 : Nat) (ps : List PinD), ps.length ≤ 1 + j ∧ (pinsBs ps).length ≤ 56 + 56 * j ∧ Hid (Sw w.heap.size D t w S8 S9 s A n c B m k #[.int .i64 s.author, .int .i64 s.number, .string s.prev, .int .i64 s.time, .int .i64 s.kind, .int .i64 s.a, .int .i64 s.b, .int .i64 s.c, (.slice A2 n2 c2), (.slice B4 m4 k4), .string s.body, .int .i64 s.key, .string s.dig] (.slice A2 n2 c2) s.list (.slice B4 m4 k4) ps wr)) (fun i _ => 66 - (intOf i).toNat)
          case atStart => exact ⟨0, by go_num, by omega, B2, m2, k2, s.pins, by have h := HQ2.out.2.1; omega, by have h := HQ2.out.2.2.1; omega, HSW⟩
          case round =>
            clear HSW
            obtain ⟨j, rfl, hj, B4, m4, k4, ps, hlj, hbj, HSW⟩ := hrel
            go_wp2_with fail
            refine (next_g w.heap.size D t 2 _ HSW.out.dice (by omega) (by omega)).mono ?_
            rintro e w9 ⟨x, rfl, hx0, hx1, hg⟩
            replace HSW := Lib.hid (HSW.out.gave hg); clear hg
            by_cases hlt : (j : Int) < 64 + x
            · have hj2 : j ≤ 64 := by omega
              go_wp2_with fail
              refine wp_region_flow (by kernel_rfl) (fun _ _ => True) ?_
              replace HSW := Lib.hid (HSW.out.later (Later.drew w9))
              generalize w9.drew = x0 at HSW ⊢
              refine flow_reads (fun _ => trivial) (by kernel_rfl) [0, 2, 3] (fuel := 7) (by kernel_rfl) ?_
              simp only [List.map_cons, List.map_nil, pick, List.getD_cons_zero, List.getD_cons_succ]
              repeat (go_big_quiet_step (fail))
              refine wpQuiet_nil ?_
              refine flow_two (fun _ _ _ _ _ => trivial) (fun _ => trivial) 1 4 (by kernel_rfl) (by decide) (by decide) ?_ ?_ <;> simp only [pick, List.getD_cons_zero, List.getD_cons_succ]
              ·
                  have hc9 : x0.cell? ⟨S9, 9, none⟩ = some (.slice B4 m4 k4) := (cell_of_row _ _ _ _ _ _ HSW.out.cur).trans rfl
                  go_wp2_with fail
                  clear hc9
                  refine pieceEnd_normal ⟨trivial, ?_⟩
                  refine flow_one (fun _ _ _ _ _ => trivial) (fun _ => trivial) 4 (by kernel_rfl) (by decide) ?_
                  simp only [pick, List.getD_cons_zero, List.getD_cons_succ]
                  go_wp2_with fail
                  refine (ddigest_g w.heap.size D t _ HSW.out.dice).mono ?_
                  rintro e x1 ⟨dg, rfl, hdg, hg⟩
                  replace HSW := Lib.hid (HSW.out.gave hg); clear hg
                  have HDG := Lib.hid hdg; clear hdg
                  go_wp2_with fail
                  refine pieceEnd_normal ⟨trivial, ?_⟩
                  refine flow_one (fun _ _ _ _ _ => trivial) (fun _ => trivial) 5 (by kernel_rfl) (by decide) ?_
                  simp only [pick, List.getD_cons_zero, List.getD_cons_succ]
                  go_wp2_with fail
                  refine pieceEnd_normal ⟨trivial, ?_⟩
                  refine flow_one (fun _ _ _ _ _ => trivial) (fun _ => trivial) 6 (by kernel_rfl) (by decide) ?_
                  simp only [pick, List.getD_cons_zero, List.getD_cons_succ]
                  go_wp2_with fail
                  refine pieceEnd_normal ⟨trivial, ?_⟩
                  refine flow_one (fun _ _ _ _ _ => trivial) (fun _ => trivial) 7 (by kernel_rfl) (by decide) ?_
                  simp only [pick, List.getD_cons_zero, List.getD_cons_succ]
                  go_wp2_with (at_builtin; go_must (refine wpList_app_newK x1 rfl (.tmp 130) (.tmp 135) 23 44 rfl (S8 + 1) Tryd.underlying23 pin_info rfl _ _ _ HSW.out.op rfl 1 #[.int .i64 (j : Int), .int .i64 1, .string dg] rfl (by simp [Value.oneCell']) rfl rfl (by have h := hlj; unfold maxLen; omega) (by have h := hlj; omega) (by have h1 := HSW.out.o3; have h2 := HSW.out.lt; omega) ?_); intro v3 x3 ho hb hk1 hk2; obtain ⟨B3, k3, hv3, hr3⟩ := Row.of_own ho; subst hv3; replace HSW := Lib.hid (HSW.out.pins hb hk1 (vp' := .slice B3 (ps.length + 1) k3) (ps' := ps ++ [(⟨(j : Int), 1, dg⟩ : PinD)]) (by unfold POwn; rw [pinsC_app, List.length_append, pinsC_single]; exact ho)); clear ho hb hk1 hk2 hr3)
                  refine flow_one (fun _ _ _ _ _ => trivial) (fun _ => trivial) 8 (by kernel_rfl) (by decide) ?_
                  simp only [pick, List.getD_cons_zero, List.getD_cons_succ]
                  go_wp2_with fail
                  refine pieceEnd_normal ⟨trivial, ?_⟩
                  refine flow_one (fun _ _ _ _ _ => trivial) (fun _ => trivial) 9 (by kernel_rfl) (by decide) ?_
                  simp only [pick, List.getD_cons_zero, List.getD_cons_succ]
                  have hf9 : x3.frozen? ⟨S9, 9, none⟩ = false := frozen_of_row _ _ _ _ _ HSW.out.cur
                  have hc9 : x3.cell? ⟨S9, 9, none⟩ = some (.slice B4 m4 k4) := (cell_of_row _ _ _ _ _ _ HSW.out.cur).trans rfl
                  go_wp2_with fail
                  clear hf9 hc9
                  refine pieceEnd_normal ⟨trivial, ?_⟩
                  refine flow_done (by kernel_rfl) ?_
                  replace HSW := Lib.hid (HSW.out.set 9 (.slice B3 (ps.length + 1) k3))
                  go_wp2_with fail
                  refine ⟨⟨j + 1, by go_num, by omega, B3, ps.length + 1, k3, ps ++ [(⟨(j : Int), 1, dg⟩ : PinD)], by rw [List.length_append]; show ps.length + 1 ≤ 1 + (j + 1); omega, by rw [pinsBs_snoc, List.length_append, pinBs_len, HDG.out]; omega, HSW⟩, by simp [intOf]; omega⟩
              · go_wp2_with fail
                refine (ddigest_g w.heap.size D t _ HSW.out.dice).mono ?_
                rintro e x1 ⟨dg, rfl, hdg, hg⟩
                replace HSW := Lib.hid (HSW.out.gave hg); clear hg
                have HDG := Lib.hid hdg; clear hdg
                go_wp2_with fail
                refine pieceEnd_normal ⟨trivial, ?_⟩
                refine flow_two (fun _ _ _ _ _ => trivial) (fun _ => trivial) 1 5 (by kernel_rfl) (by decide) (by decide) ?_ ?_ <;> simp only [pick, List.getD_cons_zero, List.getD_cons_succ]
                ·
                    have hc9 : x1.cell? ⟨S9, 9, none⟩ = some (.slice B4 m4 k4) := (cell_of_row _ _ _ _ _ _ HSW.out.cur).trans rfl
                    go_wp2_with fail
                    clear hc9
                    refine pieceEnd_normal ⟨trivial, ?_⟩
                    refine flow_one (fun _ _ _ _ _ => trivial) (fun _ => trivial) 5 (by kernel_rfl) (by decide) ?_
                    simp only [pick, List.getD_cons_zero, List.getD_cons_succ]
                    go_wp2_with fail
                    refine pieceEnd_normal ⟨trivial, ?_⟩
                    refine flow_one (fun _ _ _ _ _ => trivial) (fun _ => trivial) 6 (by kernel_rfl) (by decide) ?_
                    simp only [pick, List.getD_cons_zero, List.getD_cons_succ]
                    go_wp2_with fail
                    refine pieceEnd_normal ⟨trivial, ?_⟩
                    refine flow_one (fun _ _ _ _ _ => trivial) (fun _ => trivial) 7 (by kernel_rfl) (by decide) ?_
                    simp only [pick, List.getD_cons_zero, List.getD_cons_succ]
                    go_wp2_with (at_builtin; go_must (refine wpList_app_newK x1 rfl (.tmp 130) (.tmp 135) 23 44 rfl (S8 + 1) Tryd.underlying23 pin_info rfl _ _ _ HSW.out.op rfl 1 #[.int .i64 (j : Int), .int .i64 1, .string dg] rfl (by simp [Value.oneCell']) rfl rfl (by have h := hlj; unfold maxLen; omega) (by have h := hlj; omega) (by have h1 := HSW.out.o3; have h2 := HSW.out.lt; omega) ?_); intro v3 x3 ho hb hk1 hk2; obtain ⟨B3, k3, hv3, hr3⟩ := Row.of_own ho; subst hv3; replace HSW := Lib.hid (HSW.out.pins hb hk1 (vp' := .slice B3 (ps.length + 1) k3) (ps' := ps ++ [(⟨(j : Int), 1, dg⟩ : PinD)]) (by unfold POwn; rw [pinsC_app, List.length_append, pinsC_single]; exact ho)); clear ho hb hk1 hk2 hr3)
                    refine flow_one (fun _ _ _ _ _ => trivial) (fun _ => trivial) 8 (by kernel_rfl) (by decide) ?_
                    simp only [pick, List.getD_cons_zero, List.getD_cons_succ]
                    go_wp2_with fail
                    refine pieceEnd_normal ⟨trivial, ?_⟩
                    refine flow_one (fun _ _ _ _ _ => trivial) (fun _ => trivial) 9 (by kernel_rfl) (by decide) ?_
                    simp only [pick, List.getD_cons_zero, List.getD_cons_succ]
                    have hf9 : x3.frozen? ⟨S9, 9, none⟩ = false := frozen_of_row _ _ _ _ _ HSW.out.cur
                    have hc9 : x3.cell? ⟨S9, 9, none⟩ = some (.slice B4 m4 k4) := (cell_of_row _ _ _ _ _ _ HSW.out.cur).trans rfl
                    go_wp2_with fail
                    clear hf9 hc9
                    refine pieceEnd_normal ⟨trivial, ?_⟩
                    refine flow_done (by kernel_rfl) ?_
                    replace HSW := Lib.hid (HSW.out.set 9 (.slice B3 (ps.length + 1) k3))
                    go_wp2_with fail
                    refine ⟨⟨j + 1, by go_num, by omega, B3, ps.length + 1, k3, ps ++ [(⟨(j : Int), 1, dg⟩ : PinD)], by rw [List.length_append]; show ps.length + 1 ≤ 1 + (j + 1); omega, by rw [pinsBs_snoc, List.length_append, pinBs_len, HDG.out]; omega, HSW⟩, by simp [intOf]; omega⟩
                · go_wp2_with fail
                  refine pieceEnd_normal ⟨trivial, ?_⟩
                  refine flow_two (fun _ _ _ _ _ => trivial) (fun _ => trivial) 1 6 (by kernel_rfl) (by decide) (by decide) ?_ ?_ <;> simp only [pick, List.getD_cons_zero, List.getD_cons_succ]
                  ·
                      have hc9 : x1.cell? ⟨S9, 9, none⟩ = some (.slice B4 m4 k4) := (cell_of_row _ _ _ _ _ _ HSW.out.cur).trans rfl
                      go_wp2_with fail
                      clear hc9
                      refine pieceEnd_normal ⟨trivial, ?_⟩
                      refine flow_one (fun _ _ _ _ _ => trivial) (fun _ => trivial) 6 (by kernel_rfl) (by decide) ?_
                      simp only [pick, List.getD_cons_zero, List.getD_cons_succ]
                      go_wp2_with fail
                      refine pieceEnd_normal ⟨trivial, ?_⟩
                      refine flow_one (fun _ _ _ _ _ => trivial) (fun _ => trivial) 7 (by kernel_rfl) (by decide) ?_
                      simp only [pick, List.getD_cons_zero, List.getD_cons_succ]
                      go_wp2_with (at_builtin; go_must (refine wpList_app_newK x1 rfl (.tmp 130) (.tmp 135) 23 44 rfl (S8 + 1) Tryd.underlying23 pin_info rfl _ _ _ HSW.out.op rfl 1 #[.int .i64 (j : Int), .int .i64 1, .string dg] rfl (by simp [Value.oneCell']) rfl rfl (by have h := hlj; unfold maxLen; omega) (by have h := hlj; omega) (by have h1 := HSW.out.o3; have h2 := HSW.out.lt; omega) ?_); intro v3 x3 ho hb hk1 hk2; obtain ⟨B3, k3, hv3, hr3⟩ := Row.of_own ho; subst hv3; replace HSW := Lib.hid (HSW.out.pins hb hk1 (vp' := .slice B3 (ps.length + 1) k3) (ps' := ps ++ [(⟨(j : Int), 1, dg⟩ : PinD)]) (by unfold POwn; rw [pinsC_app, List.length_append, pinsC_single]; exact ho)); clear ho hb hk1 hk2 hr3)
                      refine flow_one (fun _ _ _ _ _ => trivial) (fun _ => trivial) 8 (by kernel_rfl) (by decide) ?_
                      simp only [pick, List.getD_cons_zero, List.getD_cons_succ]
                      go_wp2_with fail
                      refine pieceEnd_normal ⟨trivial, ?_⟩
                      refine flow_one (fun _ _ _ _ _ => trivial) (fun _ => trivial) 9 (by kernel_rfl) (by decide) ?_
                      simp only [pick, List.getD_cons_zero, List.getD_cons_succ]
                      have hf9 : x3.frozen? ⟨S9, 9, none⟩ = false := frozen_of_row _ _ _ _ _ HSW.out.cur
                      have hc9 : x3.cell? ⟨S9, 9, none⟩ = some (.slice B4 m4 k4) := (cell_of_row _ _ _ _ _ _ HSW.out.cur).trans rfl
                      go_wp2_with fail
                      clear hf9 hc9
                      refine pieceEnd_normal ⟨trivial, ?_⟩
                      refine flow_done (by kernel_rfl) ?_
                      replace HSW := Lib.hid (HSW.out.set 9 (.slice B3 (ps.length + 1) k3))
                      go_wp2_with fail
                      refine ⟨⟨j + 1, by go_num, by omega, B3, ps.length + 1, k3, ps ++ [(⟨(j : Int), 1, dg⟩ : PinD)], by rw [List.length_append]; show ps.length + 1 ≤ 1 + (j + 1); omega, by rw [pinsBs_snoc, List.length_append, pinBs_len, HDG.out]; omega, HSW⟩, by simp [intOf]; omega⟩
                  · go_wp2_with fail
                    refine pieceEnd_normal ⟨trivial, ?_⟩
                    refine flow_one (fun _ _ _ _ _ => trivial) (fun _ => trivial) 1 (by kernel_rfl) (by decide) ?_
                    simp only [pick, List.getD_cons_zero, List.getD_cons_succ]
                    have HSA := Lib.hid (HSW.out.later (one_new x1 (.cells #[.int .i64 (j : Int), .int .i64 1, .string dg] 44)))
                    have hc9 : (x1.alloc (.cells #[.int .i64 (j : Int), .int .i64 1, .string dg] 44)).cell? ⟨S9, 9, none⟩ = some (.slice B4 m4 k4) := (cell_of_row _ _ _ _ _ _ HSA.out.cur).trans rfl
                    go_wp2_with fail
                    clear hc9
                    clear HSA
                    refine pieceEnd_normal ⟨trivial, ?_⟩
                    refine flow_one (fun _ _ _ _ _ => trivial) (fun _ => trivial) 7 (by kernel_rfl) (by decide) ?_
                    simp only [pick, List.getD_cons_zero, List.getD_cons_succ]
                    go_wp2_with (at_builtin; go_must (refine wpList_app_newK x1 rfl (.tmp 130) (.tmp 135) 23 44 rfl (S8 + 1) Tryd.underlying23 pin_info rfl _ _ _ HSW.out.op rfl 1 #[.int .i64 (j : Int), .int .i64 1, .string dg] rfl (by simp [Value.oneCell']) rfl rfl (by have h := hlj; unfold maxLen; omega) (by have h := hlj; omega) (by have h1 := HSW.out.o3; have h2 := HSW.out.lt; omega) ?_); intro v3 x3 ho hb hk1 hk2; obtain ⟨B3, k3, hv3, hr3⟩ := Row.of_own ho; subst hv3; replace HSW := Lib.hid (HSW.out.pins hb hk1 (vp' := .slice B3 (ps.length + 1) k3) (ps' := ps ++ [(⟨(j : Int), 1, dg⟩ : PinD)]) (by unfold POwn; rw [pinsC_app, List.length_append, pinsC_single]; exact ho)); clear ho hb hk1 hk2 hr3)
                    refine flow_one (fun _ _ _ _ _ => trivial) (fun _ => trivial) 8 (by kernel_rfl) (by decide) ?_
                    simp only [pick, List.getD_cons_zero, List.getD_cons_succ]
                    go_wp2_with fail
                    refine pieceEnd_normal ⟨trivial, ?_⟩
                    refine flow_one (fun _ _ _ _ _ => trivial) (fun _ => trivial) 9 (by kernel_rfl) (by decide) ?_
                    simp only [pick, List.getD_cons_zero, List.getD_cons_succ]
                    have hf9 : x3.frozen? ⟨S9, 9, none⟩ = false := frozen_of_row _ _ _ _ _ HSW.out.cur
                    have hc9 : x3.cell? ⟨S9, 9, none⟩ = some (.slice B4 m4 k4) := (cell_of_row _ _ _ _ _ _ HSW.out.cur).trans rfl
                    go_wp2_with fail
                    clear hf9 hc9
                    refine pieceEnd_normal ⟨trivial, ?_⟩
                    refine flow_done (by kernel_rfl) ?_
                    replace HSW := Lib.hid (HSW.out.set 9 (.slice B3 (ps.length + 1) k3))
                    go_wp2_with fail
                    refine ⟨⟨j + 1, by go_num, by omega, B3, ps.length + 1, k3, ps ++ [(⟨(j : Int), 1, dg⟩ : PinD)], by rw [List.length_append]; show ps.length + 1 ≤ 1 + (j + 1); omega, by rw [pinsBs_snoc, List.length_append, pinBs_len, HDG.out]; omega, HSW⟩, by simp [intOf]; omega⟩
            · go_wp2_with fail
              go_meet
              have hs := HSM2.out
              exact Lib.hid (HSW.out.stop { s with pins := ps } rfl rfl ⟨hs.prev, hs.list, Nat.le_trans hlj (by omega), Nat.le_trans hbj (by omega), hs.body, hs.dig⟩ (fun A3 n3 c3 B3 m3 k3 e1 e2 => by cases e1; cases e2; rfl))
      · go_wp2_with fail
        refine wp_region_flow (by kernel_rfl) (fun _ _ => True) ?_
        replace HSW := Lib.hid (HSW.out.later (Later.drew w7))
        generalize w7.drew = x0 at HSW ⊢
        refine flow_reads (fun _ => trivial) (by kernel_rfl) [0, 2, 4, 7, 9] (fuel := 12) (by kernel_rfl) ?_
        simp only [List.map_cons, List.map_nil, pick, List.getD_cons_zero, List.getD_cons_succ]
        repeat (go_big_quiet_step (fail))
        refine wpQuiet_nil ?_
        refine flow_step (fun _ _ _ _ _ => trivial) (fun _ => trivial) [1, 3, 5] (by kernel_rfl) (by decide) (by decide) ?_
        intro e he
        have h3 : e = 1 ∨ e = 3 ∨ e = 5 := by simpa using he
        rcases h3 with rfl | rfl | rfl <;> clear he <;> simp only [pick, List.getD_cons_zero, List.getD_cons_succ]
        · as_aux_lemma =>
            have hc9 : x0.cell? ⟨S9, 9, none⟩ = some (.slice B2 m2 k2) := (cell_of_row _ _ _ _ _ _ HSW.out.cur).trans rfl
            go_wp2_with fail
            clear hc9
            refine pieceEnd_normal ⟨trivial, ?_⟩
            refine flow_two (fun _ _ _ _ _ => trivial) (fun _ => trivial) 3 5 (by kernel_rfl) (by decide) (by decide) ?_ ?_ <;> simp only [pick, List.getD_cons_zero, List.getD_cons_succ]
            · go_wp2_with fail
              refine (next_g w.heap.size D t 3 _ HSW.out.dice (by omega) (by omega)).mono ?_
              rintro e y1 ⟨a3, rfl, -, -, hg⟩
              replace HSW := Lib.hid (HSW.out.gave hg); clear hg
              go_wp2_with fail
              refine pieceEnd_normal ⟨trivial, ?_⟩
              refine flow_one (fun _ _ _ _ _ => trivial) (fun _ => trivial) 5 (by kernel_rfl) (by decide) ?_
              simp only [pick, List.getD_cons_zero, List.getD_cons_succ]
              go_wp2_with fail
              refine pieceEnd_normal ⟨trivial, ?_⟩
              have hlow : D < y1.heap.size := by have h1 := HSW.out.o2; have h2 := HSW.out.o3; have h3 := HSW.out.lt; omega
              have HR : Hid (Row (y1.alloc (.cells #[.int .i64 1, .int .i64 0, .int .i64 200, .int .i64 201] 3)) (some ⟨y1.heap.size, 0, none⟩) 4 4 1 (intsV [1, 0, 200, 201])) := Lib.hid (Row.of_block (cs := (intsV [1, 0, 200, 201]).toArray) (heap_alloc_new _ _) rfl)
              replace HSW := Lib.hid (HSW.out.later (one_new y1 (.cells #[.int .i64 1, .int .i64 0, .int .i64 200, .int .i64 201] 3)))
              generalize y1.alloc (.cells #[.int .i64 1, .int .i64 0, .int .i64 200, .int .i64 201] 3) = y2 at HSW HR ⊢
              generalize y1.heap.size = pb at HR hlow ⊢
              refine flow_one (fun _ _ _ _ _ => trivial) (fun _ => trivial) 6 (by kernel_rfl) (by decide) ?_
              simp only [pick, List.getD_cons_zero, List.getD_cons_succ]
              go_wp2_with fail
              refine (of_g w.heap.size D t (some ⟨pb, 0, none⟩) 4 4 [1, 0, 200, 201] y2 HSW.out.dice HR.out (fun ad e => by injection e with e; subst e; show pb ≠ D; omega) (by omega) (by omega)).mono ?_
              clear hlow HR
              rintro e y3 ⟨a6, rfl, -, hg⟩
              replace HSW := Lib.hid (HSW.out.gave hg); clear hg
              go_wp2_with fail
              refine pieceEnd_normal ⟨trivial, ?_⟩
              refine flow_one (fun _ _ _ _ _ => trivial) (fun _ => trivial) 8 (by kernel_rfl) (by decide) ?_
              simp only [pick, List.getD_cons_zero, List.getD_cons_succ]
              go_wp2_with fail
              refine (ddigest_g w.heap.size D t _ HSW.out.dice).mono ?_
              rintro e y4 ⟨dg, rfl, hdg, hg⟩
              replace HSW := Lib.hid (HSW.out.gave hg); clear hg
              have HDG := Lib.hid hdg; clear hdg
              go_wp2_with fail
              refine pieceEnd_normal ⟨trivial, ?_⟩
              refine flow_one (fun _ _ _ _ _ => trivial) (fun _ => trivial) 10 (by kernel_rfl) (by decide) ?_
              simp only [pick, List.getD_cons_zero, List.getD_cons_succ]
              go_wp2_with fail
              refine (next_g w.heap.size D t 2 _ HSW.out.dice (by omega) (by omega)).mono ?_
              rintro e y5 ⟨x, rfl, hx0, hx1, hg⟩
              replace HSW := Lib.hid (HSW.out.gave hg); clear hg
              go_wp2_with fail
              refine pieceEnd_normal ⟨trivial, ?_⟩
              refine flow_one (fun _ _ _ _ _ => trivial) (fun _ => trivial) 11 (by kernel_rfl) (by decide) ?_
              simp only [pick, List.getD_cons_zero, List.getD_cons_succ]
              have hxd : x ≤ (dg.size : Int) := by have h := HDG.out; omega
              have HDE : Hid ((dg.extract x.toNat dg.size).size ≤ 32) := Lib.hid (by have h := HDG.out; rw [ByteArray.size_extract]; omega)
              go_wp2_with fail
              clear hxd hx0 hx1
              generalize dg.extract x.toNat dg.size = de at HDE ⊢
              refine pieceEnd_normal ⟨trivial, ?_⟩
              refine flow_one (fun _ _ _ _ _ => trivial) (fun _ => trivial) 12 (by kernel_rfl) (by decide) ?_
              simp only [pick, List.getD_cons_zero, List.getD_cons_succ]
              go_wp2_with fail
              refine pieceEnd_normal ⟨trivial, ?_⟩
              refine flow_one (fun _ _ _ _ _ => trivial) (fun _ => trivial) 13 (by kernel_rfl) (by decide) ?_
              simp only [pick, List.getD_cons_zero, List.getD_cons_succ]
              go_wp2_with fail
              refine pieceEnd_normal ⟨trivial, ?_⟩
              refine flow_one (fun _ _ _ _ _ => trivial) (fun _ => trivial) 14 (by kernel_rfl) (by decide) ?_
              simp only [pick, List.getD_cons_zero, List.getD_cons_succ]
              go_wp2_with (at_builtin; go_must (refine wpList_app_newK y5 rfl (.tmp 141) (.tmp 153) 23 44 rfl (S8 + 1) Tryd.underlying23 pin_info rfl _ _ _ HSW.out.op rfl 1 #[.int .i64 a3, .int .i64 a6, .string de] rfl (by simp [Value.oneCell']) rfl rfl (by have h := HQ2.out.2.1; unfold maxLen; omega) (by have h := HQ2.out.2.1; omega) (by have h1 := HSW.out.o3; have h2 := HSW.out.lt; omega) ?_); intro v3 z3 ho hb hk1 hk2; obtain ⟨B3, k3, hv3, hr3⟩ := Row.of_own ho; subst hv3; replace HSW := Lib.hid (HSW.out.pins hb hk1 (vp' := .slice B3 (s.pins.length + 1) k3) (ps' := s.pins ++ [(⟨a3, a6, de⟩ : PinD)]) (by unfold POwn; rw [pinsC_app, List.length_append, pinsC_single]; exact ho)); clear ho hb hk1 hk2 hr3)
              refine flow_one (fun _ _ _ _ _ => trivial) (fun _ => trivial) 15 (by kernel_rfl) (by decide) ?_
              simp only [pick, List.getD_cons_zero, List.getD_cons_succ]
              go_wp2_with fail
              refine pieceEnd_normal ⟨trivial, ?_⟩
              refine flow_one (fun _ _ _ _ _ => trivial) (fun _ => trivial) 16 (by kernel_rfl) (by decide) ?_
              simp only [pick, List.getD_cons_zero, List.getD_cons_succ]
              have hf9 : z3.frozen? ⟨S9, 9, none⟩ = false := frozen_of_row _ _ _ _ _ HSW.out.cur
              have hc9 : z3.cell? ⟨S9, 9, none⟩ = some (.slice B2 m2 k2) := (cell_of_row _ _ _ _ _ _ HSW.out.cur).trans rfl
              go_wp2_with fail
              clear hf9 hc9
              refine pieceEnd_normal ⟨trivial, ?_⟩
              refine flow_done (by kernel_rfl) ?_
              replace HSW := Lib.hid (HSW.out.set 9 (.slice B3 (s.pins.length + 1) k3))
              go_wp2_with fail
              go_meet
              have hs := HSM2.out
              exact Lib.hid (HSW.out.stop { s with pins := s.pins ++ [(⟨a3, a6, de⟩ : PinD)] } rfl rfl ⟨hs.prev, hs.list, Nat.le_trans (Nat.le_of_eq List.length_append) (Nat.le_trans (Nat.succ_le_succ HQ2.out.2.1) (by decide)), by have h1 := HQ2.out.2.2.1; have h2 := HDE.out; show (pinsBs (s.pins ++ [(⟨a3, a6, de⟩ : PinD)])).length ≤ 1500000; rw [pinsBs_snoc, List.length_append, pinBs_len]; show _ + (24 + de.size) ≤ 1500000; omega, hs.body, hs.dig⟩ (fun A3 n3 c3 B3 m3 k3 e1 e2 => by cases e1; cases e2; rfl))
            · go_wp2_with fail
              refine pieceEnd_normal ⟨trivial, ?_⟩
              have hlow : D < x0.heap.size := by have h1 := HSW.out.o2; have h2 := HSW.out.o3; have h3 := HSW.out.lt; omega
              have HR : Hid (Row (x0.alloc (.cells #[.int .i64 1, .int .i64 0, .int .i64 200, .int .i64 201] 3)) (some ⟨x0.heap.size, 0, none⟩) 4 4 1 (intsV [1, 0, 200, 201])) := Lib.hid (Row.of_block (cs := (intsV [1, 0, 200, 201]).toArray) (heap_alloc_new _ _) rfl)
              replace HSW := Lib.hid (HSW.out.later (one_new x0 (.cells #[.int .i64 1, .int .i64 0, .int .i64 200, .int .i64 201] 3)))
              generalize x0.alloc (.cells #[.int .i64 1, .int .i64 0, .int .i64 200, .int .i64 201] 3) = y1 at HSW HR ⊢
              generalize x0.heap.size = pb at HR hlow ⊢
              refine flow_one (fun _ _ _ _ _ => trivial) (fun _ => trivial) 3 (by kernel_rfl) (by decide) ?_
              simp only [pick, List.getD_cons_zero, List.getD_cons_succ]
              go_wp2_with fail
              refine (next_g w.heap.size D t 3 _ HSW.out.dice (by omega) (by omega)).mono ?_
              rintro e y2 ⟨a3, rfl, -, -, hg⟩
              replace HR := Lib.hid (Row.but HR.out hg.2 fun ad e _ => by injection e with e; subst e; show pb ≠ D; omega)
              replace HSW := Lib.hid (HSW.out.gave hg); clear hg
              go_wp2_with fail
              refine pieceEnd_normal ⟨trivial, ?_⟩
              refine flow_one (fun _ _ _ _ _ => trivial) (fun _ => trivial) 6 (by kernel_rfl) (by decide) ?_
              simp only [pick, List.getD_cons_zero, List.getD_cons_succ]
              go_wp2_with fail
              refine (of_g w.heap.size D t (some ⟨pb, 0, none⟩) 4 4 [1, 0, 200, 201] y2 HSW.out.dice HR.out (fun ad e => by injection e with e; subst e; show pb ≠ D; omega) (by omega) (by omega)).mono ?_
              clear hlow HR
              rintro e y3 ⟨a6, rfl, -, hg⟩
              replace HSW := Lib.hid (HSW.out.gave hg); clear hg
              go_wp2_with fail
              refine pieceEnd_normal ⟨trivial, ?_⟩
              refine flow_one (fun _ _ _ _ _ => trivial) (fun _ => trivial) 8 (by kernel_rfl) (by decide) ?_
              simp only [pick, List.getD_cons_zero, List.getD_cons_succ]
              go_wp2_with fail
              refine (ddigest_g w.heap.size D t _ HSW.out.dice).mono ?_
              rintro e y4 ⟨dg, rfl, hdg, hg⟩
              replace HSW := Lib.hid (HSW.out.gave hg); clear hg
              have HDG := Lib.hid hdg; clear hdg
              go_wp2_with fail
              refine pieceEnd_normal ⟨trivial, ?_⟩
              refine flow_one (fun _ _ _ _ _ => trivial) (fun _ => trivial) 10 (by kernel_rfl) (by decide) ?_
              simp only [pick, List.getD_cons_zero, List.getD_cons_succ]
              go_wp2_with fail
              refine (next_g w.heap.size D t 2 _ HSW.out.dice (by omega) (by omega)).mono ?_
              rintro e y5 ⟨x, rfl, hx0, hx1, hg⟩
              replace HSW := Lib.hid (HSW.out.gave hg); clear hg
              go_wp2_with fail
              refine pieceEnd_normal ⟨trivial, ?_⟩
              refine flow_one (fun _ _ _ _ _ => trivial) (fun _ => trivial) 11 (by kernel_rfl) (by decide) ?_
              simp only [pick, List.getD_cons_zero, List.getD_cons_succ]
              have hxd : x ≤ (dg.size : Int) := by have h := HDG.out; omega
              have HDE : Hid ((dg.extract x.toNat dg.size).size ≤ 32) := Lib.hid (by have h := HDG.out; rw [ByteArray.size_extract]; omega)
              go_wp2_with fail
              clear hxd hx0 hx1
              generalize dg.extract x.toNat dg.size = de at HDE ⊢
              refine pieceEnd_normal ⟨trivial, ?_⟩
              refine flow_one (fun _ _ _ _ _ => trivial) (fun _ => trivial) 12 (by kernel_rfl) (by decide) ?_
              simp only [pick, List.getD_cons_zero, List.getD_cons_succ]
              go_wp2_with fail
              refine pieceEnd_normal ⟨trivial, ?_⟩
              refine flow_one (fun _ _ _ _ _ => trivial) (fun _ => trivial) 13 (by kernel_rfl) (by decide) ?_
              simp only [pick, List.getD_cons_zero, List.getD_cons_succ]
              go_wp2_with fail
              refine pieceEnd_normal ⟨trivial, ?_⟩
              refine flow_one (fun _ _ _ _ _ => trivial) (fun _ => trivial) 14 (by kernel_rfl) (by decide) ?_
              simp only [pick, List.getD_cons_zero, List.getD_cons_succ]
              go_wp2_with (at_builtin; go_must (refine wpList_app_newK y5 rfl (.tmp 141) (.tmp 153) 23 44 rfl (S8 + 1) Tryd.underlying23 pin_info rfl _ _ _ HSW.out.op rfl 1 #[.int .i64 a3, .int .i64 a6, .string de] rfl (by simp [Value.oneCell']) rfl rfl (by have h := HQ2.out.2.1; unfold maxLen; omega) (by have h := HQ2.out.2.1; omega) (by have h1 := HSW.out.o3; have h2 := HSW.out.lt; omega) ?_); intro v3 z3 ho hb hk1 hk2; obtain ⟨B3, k3, hv3, hr3⟩ := Row.of_own ho; subst hv3; replace HSW := Lib.hid (HSW.out.pins hb hk1 (vp' := .slice B3 (s.pins.length + 1) k3) (ps' := s.pins ++ [(⟨a3, a6, de⟩ : PinD)]) (by unfold POwn; rw [pinsC_app, List.length_append, pinsC_single]; exact ho)); clear ho hb hk1 hk2 hr3)
              refine flow_one (fun _ _ _ _ _ => trivial) (fun _ => trivial) 15 (by kernel_rfl) (by decide) ?_
              simp only [pick, List.getD_cons_zero, List.getD_cons_succ]
              go_wp2_with fail
              refine pieceEnd_normal ⟨trivial, ?_⟩
              refine flow_one (fun _ _ _ _ _ => trivial) (fun _ => trivial) 16 (by kernel_rfl) (by decide) ?_
              simp only [pick, List.getD_cons_zero, List.getD_cons_succ]
              have hf9 : z3.frozen? ⟨S9, 9, none⟩ = false := frozen_of_row _ _ _ _ _ HSW.out.cur
              have hc9 : z3.cell? ⟨S9, 9, none⟩ = some (.slice B2 m2 k2) := (cell_of_row _ _ _ _ _ _ HSW.out.cur).trans rfl
              go_wp2_with fail
              clear hf9 hc9
              refine pieceEnd_normal ⟨trivial, ?_⟩
              refine flow_done (by kernel_rfl) ?_
              replace HSW := Lib.hid (HSW.out.set 9 (.slice B3 (s.pins.length + 1) k3))
              go_wp2_with fail
              go_meet
              have hs := HSM2.out
              exact Lib.hid (HSW.out.stop { s with pins := s.pins ++ [(⟨a3, a6, de⟩ : PinD)] } rfl rfl ⟨hs.prev, hs.list, Nat.le_trans (Nat.le_of_eq List.length_append) (Nat.le_trans (Nat.succ_le_succ HQ2.out.2.1) (by decide)), by have h1 := HQ2.out.2.2.1; have h2 := HDE.out; show (pinsBs (s.pins ++ [(⟨a3, a6, de⟩ : PinD)])).length ≤ 1500000; rw [pinsBs_snoc, List.length_append, pinBs_len]; show _ + (24 + de.size) ≤ 1500000; omega, hs.body, hs.dig⟩ (fun A3 n3 c3 B3 m3 k3 e1 e2 => by cases e1; cases e2; rfl))
        · as_aux_lemma =>
            go_wp2_with fail
            refine (next_g w.heap.size D t 3 _ HSW.out.dice (by omega) (by omega)).mono ?_
            rintro e y1 ⟨a3, rfl, -, -, hg⟩
            replace HSW := Lib.hid (HSW.out.gave hg); clear hg
            go_wp2_with fail
            refine pieceEnd_normal ⟨trivial, ?_⟩
            refine flow_two (fun _ _ _ _ _ => trivial) (fun _ => trivial) 1 5 (by kernel_rfl) (by decide) (by decide) ?_ ?_ <;> simp only [pick, List.getD_cons_zero, List.getD_cons_succ]
            · have hc9 : y1.cell? ⟨S9, 9, none⟩ = some (.slice B2 m2 k2) := (cell_of_row _ _ _ _ _ _ HSW.out.cur).trans rfl
              go_wp2_with fail
              clear hc9
              refine pieceEnd_normal ⟨trivial, ?_⟩
              refine flow_one (fun _ _ _ _ _ => trivial) (fun _ => trivial) 5 (by kernel_rfl) (by decide) ?_
              simp only [pick, List.getD_cons_zero, List.getD_cons_succ]
              go_wp2_with fail
              refine pieceEnd_normal ⟨trivial, ?_⟩
              have hlow : D < y1.heap.size := by have h1 := HSW.out.o2; have h2 := HSW.out.o3; have h3 := HSW.out.lt; omega
              have HR : Hid (Row (y1.alloc (.cells #[.int .i64 1, .int .i64 0, .int .i64 200, .int .i64 201] 3)) (some ⟨y1.heap.size, 0, none⟩) 4 4 1 (intsV [1, 0, 200, 201])) := Lib.hid (Row.of_block (cs := (intsV [1, 0, 200, 201]).toArray) (heap_alloc_new _ _) rfl)
              replace HSW := Lib.hid (HSW.out.later (one_new y1 (.cells #[.int .i64 1, .int .i64 0, .int .i64 200, .int .i64 201] 3)))
              generalize y1.alloc (.cells #[.int .i64 1, .int .i64 0, .int .i64 200, .int .i64 201] 3) = y2 at HSW HR ⊢
              generalize y1.heap.size = pb at HR hlow ⊢
              refine flow_one (fun _ _ _ _ _ => trivial) (fun _ => trivial) 6 (by kernel_rfl) (by decide) ?_
              simp only [pick, List.getD_cons_zero, List.getD_cons_succ]
              go_wp2_with fail
              refine (of_g w.heap.size D t (some ⟨pb, 0, none⟩) 4 4 [1, 0, 200, 201] y2 HSW.out.dice HR.out (fun ad e => by injection e with e; subst e; show pb ≠ D; omega) (by omega) (by omega)).mono ?_
              clear hlow HR
              rintro e y3 ⟨a6, rfl, -, hg⟩
              replace HSW := Lib.hid (HSW.out.gave hg); clear hg
              go_wp2_with fail
              refine pieceEnd_normal ⟨trivial, ?_⟩
              refine flow_one (fun _ _ _ _ _ => trivial) (fun _ => trivial) 8 (by kernel_rfl) (by decide) ?_
              simp only [pick, List.getD_cons_zero, List.getD_cons_succ]
              go_wp2_with fail
              refine (ddigest_g w.heap.size D t _ HSW.out.dice).mono ?_
              rintro e y4 ⟨dg, rfl, hdg, hg⟩
              replace HSW := Lib.hid (HSW.out.gave hg); clear hg
              have HDG := Lib.hid hdg; clear hdg
              go_wp2_with fail
              refine pieceEnd_normal ⟨trivial, ?_⟩
              refine flow_one (fun _ _ _ _ _ => trivial) (fun _ => trivial) 10 (by kernel_rfl) (by decide) ?_
              simp only [pick, List.getD_cons_zero, List.getD_cons_succ]
              go_wp2_with fail
              refine (next_g w.heap.size D t 2 _ HSW.out.dice (by omega) (by omega)).mono ?_
              rintro e y5 ⟨x, rfl, hx0, hx1, hg⟩
              replace HSW := Lib.hid (HSW.out.gave hg); clear hg
              go_wp2_with fail
              refine pieceEnd_normal ⟨trivial, ?_⟩
              refine flow_one (fun _ _ _ _ _ => trivial) (fun _ => trivial) 11 (by kernel_rfl) (by decide) ?_
              simp only [pick, List.getD_cons_zero, List.getD_cons_succ]
              have hxd : x ≤ (dg.size : Int) := by have h := HDG.out; omega
              have HDE : Hid ((dg.extract x.toNat dg.size).size ≤ 32) := Lib.hid (by have h := HDG.out; rw [ByteArray.size_extract]; omega)
              go_wp2_with fail
              clear hxd hx0 hx1
              generalize dg.extract x.toNat dg.size = de at HDE ⊢
              refine pieceEnd_normal ⟨trivial, ?_⟩
              refine flow_one (fun _ _ _ _ _ => trivial) (fun _ => trivial) 12 (by kernel_rfl) (by decide) ?_
              simp only [pick, List.getD_cons_zero, List.getD_cons_succ]
              go_wp2_with fail
              refine pieceEnd_normal ⟨trivial, ?_⟩
              refine flow_one (fun _ _ _ _ _ => trivial) (fun _ => trivial) 13 (by kernel_rfl) (by decide) ?_
              simp only [pick, List.getD_cons_zero, List.getD_cons_succ]
              go_wp2_with fail
              refine pieceEnd_normal ⟨trivial, ?_⟩
              refine flow_one (fun _ _ _ _ _ => trivial) (fun _ => trivial) 14 (by kernel_rfl) (by decide) ?_
              simp only [pick, List.getD_cons_zero, List.getD_cons_succ]
              go_wp2_with (at_builtin; go_must (refine wpList_app_newK y5 rfl (.tmp 141) (.tmp 153) 23 44 rfl (S8 + 1) Tryd.underlying23 pin_info rfl _ _ _ HSW.out.op rfl 1 #[.int .i64 a3, .int .i64 a6, .string de] rfl (by simp [Value.oneCell']) rfl rfl (by have h := HQ2.out.2.1; unfold maxLen; omega) (by have h := HQ2.out.2.1; omega) (by have h1 := HSW.out.o3; have h2 := HSW.out.lt; omega) ?_); intro v3 z3 ho hb hk1 hk2; obtain ⟨B3, k3, hv3, hr3⟩ := Row.of_own ho; subst hv3; replace HSW := Lib.hid (HSW.out.pins hb hk1 (vp' := .slice B3 (s.pins.length + 1) k3) (ps' := s.pins ++ [(⟨a3, a6, de⟩ : PinD)]) (by unfold POwn; rw [pinsC_app, List.length_append, pinsC_single]; exact ho)); clear ho hb hk1 hk2 hr3)
              refine flow_one (fun _ _ _ _ _ => trivial) (fun _ => trivial) 15 (by kernel_rfl) (by decide) ?_
              simp only [pick, List.getD_cons_zero, List.getD_cons_succ]
              go_wp2_with fail
              refine pieceEnd_normal ⟨trivial, ?_⟩
              refine flow_one (fun _ _ _ _ _ => trivial) (fun _ => trivial) 16 (by kernel_rfl) (by decide) ?_
              simp only [pick, List.getD_cons_zero, List.getD_cons_succ]
              have hf9 : z3.frozen? ⟨S9, 9, none⟩ = false := frozen_of_row _ _ _ _ _ HSW.out.cur
              have hc9 : z3.cell? ⟨S9, 9, none⟩ = some (.slice B2 m2 k2) := (cell_of_row _ _ _ _ _ _ HSW.out.cur).trans rfl
              go_wp2_with fail
              clear hf9 hc9
              refine pieceEnd_normal ⟨trivial, ?_⟩
              refine flow_done (by kernel_rfl) ?_
              replace HSW := Lib.hid (HSW.out.set 9 (.slice B3 (s.pins.length + 1) k3))
              go_wp2_with fail
              go_meet
              have hs := HSM2.out
              exact Lib.hid (HSW.out.stop { s with pins := s.pins ++ [(⟨a3, a6, de⟩ : PinD)] } rfl rfl ⟨hs.prev, hs.list, Nat.le_trans (Nat.le_of_eq List.length_append) (Nat.le_trans (Nat.succ_le_succ HQ2.out.2.1) (by decide)), by have h1 := HQ2.out.2.2.1; have h2 := HDE.out; show (pinsBs (s.pins ++ [(⟨a3, a6, de⟩ : PinD)])).length ≤ 1500000; rw [pinsBs_snoc, List.length_append, pinBs_len]; show _ + (24 + de.size) ≤ 1500000; omega, hs.body, hs.dig⟩ (fun A3 n3 c3 B3 m3 k3 e1 e2 => by cases e1; cases e2; rfl))
            · go_wp2_with fail
              refine pieceEnd_normal ⟨trivial, ?_⟩
              have hlow : D < y1.heap.size := by have h1 := HSW.out.o2; have h2 := HSW.out.o3; have h3 := HSW.out.lt; omega
              have HR : Hid (Row (y1.alloc (.cells #[.int .i64 1, .int .i64 0, .int .i64 200, .int .i64 201] 3)) (some ⟨y1.heap.size, 0, none⟩) 4 4 1 (intsV [1, 0, 200, 201])) := Lib.hid (Row.of_block (cs := (intsV [1, 0, 200, 201]).toArray) (heap_alloc_new _ _) rfl)
              replace HSW := Lib.hid (HSW.out.later (one_new y1 (.cells #[.int .i64 1, .int .i64 0, .int .i64 200, .int .i64 201] 3)))
              generalize y1.alloc (.cells #[.int .i64 1, .int .i64 0, .int .i64 200, .int .i64 201] 3) = y2 at HSW HR ⊢
              generalize y1.heap.size = pb at HR hlow ⊢
              refine flow_two (fun _ _ _ _ _ => trivial) (fun _ => trivial) 1 6 (by kernel_rfl) (by decide) (by decide) ?_ ?_ <;> simp only [pick, List.getD_cons_zero, List.getD_cons_succ]
              · have hc9 : y2.cell? ⟨S9, 9, none⟩ = some (.slice B2 m2 k2) := (cell_of_row _ _ _ _ _ _ HSW.out.cur).trans rfl
                go_wp2_with fail
                clear hc9
                refine pieceEnd_normal ⟨trivial, ?_⟩
                refine flow_one (fun _ _ _ _ _ => trivial) (fun _ => trivial) 6 (by kernel_rfl) (by decide) ?_
                simp only [pick, List.getD_cons_zero, List.getD_cons_succ]
                go_wp2_with fail
                refine (of_g w.heap.size D t (some ⟨pb, 0, none⟩) 4 4 [1, 0, 200, 201] y2 HSW.out.dice HR.out (fun ad e => by injection e with e; subst e; show pb ≠ D; omega) (by omega) (by omega)).mono ?_
                clear hlow HR
                rintro e y3 ⟨a6, rfl, -, hg⟩
                replace HSW := Lib.hid (HSW.out.gave hg); clear hg
                go_wp2_with fail
                refine pieceEnd_normal ⟨trivial, ?_⟩
                refine flow_one (fun _ _ _ _ _ => trivial) (fun _ => trivial) 8 (by kernel_rfl) (by decide) ?_
                simp only [pick, List.getD_cons_zero, List.getD_cons_succ]
                go_wp2_with fail
                refine (ddigest_g w.heap.size D t _ HSW.out.dice).mono ?_
                rintro e y4 ⟨dg, rfl, hdg, hg⟩
                replace HSW := Lib.hid (HSW.out.gave hg); clear hg
                have HDG := Lib.hid hdg; clear hdg
                go_wp2_with fail
                refine pieceEnd_normal ⟨trivial, ?_⟩
                refine flow_one (fun _ _ _ _ _ => trivial) (fun _ => trivial) 10 (by kernel_rfl) (by decide) ?_
                simp only [pick, List.getD_cons_zero, List.getD_cons_succ]
                go_wp2_with fail
                refine (next_g w.heap.size D t 2 _ HSW.out.dice (by omega) (by omega)).mono ?_
                rintro e y5 ⟨x, rfl, hx0, hx1, hg⟩
                replace HSW := Lib.hid (HSW.out.gave hg); clear hg
                go_wp2_with fail
                refine pieceEnd_normal ⟨trivial, ?_⟩
                refine flow_one (fun _ _ _ _ _ => trivial) (fun _ => trivial) 11 (by kernel_rfl) (by decide) ?_
                simp only [pick, List.getD_cons_zero, List.getD_cons_succ]
                have hxd : x ≤ (dg.size : Int) := by have h := HDG.out; omega
                have HDE : Hid ((dg.extract x.toNat dg.size).size ≤ 32) := Lib.hid (by have h := HDG.out; rw [ByteArray.size_extract]; omega)
                go_wp2_with fail
                clear hxd hx0 hx1
                generalize dg.extract x.toNat dg.size = de at HDE ⊢
                refine pieceEnd_normal ⟨trivial, ?_⟩
                refine flow_one (fun _ _ _ _ _ => trivial) (fun _ => trivial) 12 (by kernel_rfl) (by decide) ?_
                simp only [pick, List.getD_cons_zero, List.getD_cons_succ]
                go_wp2_with fail
                refine pieceEnd_normal ⟨trivial, ?_⟩
                refine flow_one (fun _ _ _ _ _ => trivial) (fun _ => trivial) 13 (by kernel_rfl) (by decide) ?_
                simp only [pick, List.getD_cons_zero, List.getD_cons_succ]
                go_wp2_with fail
                refine pieceEnd_normal ⟨trivial, ?_⟩
                refine flow_one (fun _ _ _ _ _ => trivial) (fun _ => trivial) 14 (by kernel_rfl) (by decide) ?_
                simp only [pick, List.getD_cons_zero, List.getD_cons_succ]
                go_wp2_with (at_builtin; go_must (refine wpList_app_newK y5 rfl (.tmp 141) (.tmp 153) 23 44 rfl (S8 + 1) Tryd.underlying23 pin_info rfl _ _ _ HSW.out.op rfl 1 #[.int .i64 a3, .int .i64 a6, .string de] rfl (by simp [Value.oneCell']) rfl rfl (by have h := HQ2.out.2.1; unfold maxLen; omega) (by have h := HQ2.out.2.1; omega) (by have h1 := HSW.out.o3; have h2 := HSW.out.lt; omega) ?_); intro v3 z3 ho hb hk1 hk2; obtain ⟨B3, k3, hv3, hr3⟩ := Row.of_own ho; subst hv3; replace HSW := Lib.hid (HSW.out.pins hb hk1 (vp' := .slice B3 (s.pins.length + 1) k3) (ps' := s.pins ++ [(⟨a3, a6, de⟩ : PinD)]) (by unfold POwn; rw [pinsC_app, List.length_append, pinsC_single]; exact ho)); clear ho hb hk1 hk2 hr3)
                refine flow_one (fun _ _ _ _ _ => trivial) (fun _ => trivial) 15 (by kernel_rfl) (by decide) ?_
                simp only [pick, List.getD_cons_zero, List.getD_cons_succ]
                go_wp2_with fail
                refine pieceEnd_normal ⟨trivial, ?_⟩
                refine flow_one (fun _ _ _ _ _ => trivial) (fun _ => trivial) 16 (by kernel_rfl) (by decide) ?_
                simp only [pick, List.getD_cons_zero, List.getD_cons_succ]
                have hf9 : z3.frozen? ⟨S9, 9, none⟩ = false := frozen_of_row _ _ _ _ _ HSW.out.cur
                have hc9 : z3.cell? ⟨S9, 9, none⟩ = some (.slice B2 m2 k2) := (cell_of_row _ _ _ _ _ _ HSW.out.cur).trans rfl
                go_wp2_with fail
                clear hf9 hc9
                refine pieceEnd_normal ⟨trivial, ?_⟩
                refine flow_done (by kernel_rfl) ?_
                replace HSW := Lib.hid (HSW.out.set 9 (.slice B3 (s.pins.length + 1) k3))
                go_wp2_with fail
                go_meet
                have hs := HSM2.out
                exact Lib.hid (HSW.out.stop { s with pins := s.pins ++ [(⟨a3, a6, de⟩ : PinD)] } rfl rfl ⟨hs.prev, hs.list, Nat.le_trans (Nat.le_of_eq List.length_append) (Nat.le_trans (Nat.succ_le_succ HQ2.out.2.1) (by decide)), by have h1 := HQ2.out.2.2.1; have h2 := HDE.out; show (pinsBs (s.pins ++ [(⟨a3, a6, de⟩ : PinD)])).length ≤ 1500000; rw [pinsBs_snoc, List.length_append, pinBs_len]; show _ + (24 + de.size) ≤ 1500000; omega, hs.body, hs.dig⟩ (fun A3 n3 c3 B3 m3 k3 e1 e2 => by cases e1; cases e2; rfl))
              · go_wp2_with fail
                refine (of_g w.heap.size D t (some ⟨pb, 0, none⟩) 4 4 [1, 0, 200, 201] y2 HSW.out.dice HR.out (fun ad e => by injection e with e; subst e; show pb ≠ D; omega) (by omega) (by omega)).mono ?_
                clear hlow HR
                rintro e y3 ⟨a6, rfl, -, hg⟩
                replace HSW := Lib.hid (HSW.out.gave hg); clear hg
                go_wp2_with fail
                refine pieceEnd_normal ⟨trivial, ?_⟩
                refine flow_two (fun _ _ _ _ _ => trivial) (fun _ => trivial) 1 8 (by kernel_rfl) (by decide) (by decide) ?_ ?_ <;> simp only [pick, List.getD_cons_zero, List.getD_cons_succ]
                · have hc9 : y3.cell? ⟨S9, 9, none⟩ = some (.slice B2 m2 k2) := (cell_of_row _ _ _ _ _ _ HSW.out.cur).trans rfl
                  go_wp2_with fail
                  clear hc9
                  refine pieceEnd_normal ⟨trivial, ?_⟩
                  refine flow_one (fun _ _ _ _ _ => trivial) (fun _ => trivial) 8 (by kernel_rfl) (by decide) ?_
                  simp only [pick, List.getD_cons_zero, List.getD_cons_succ]
                  go_wp2_with fail
                  refine (ddigest_g w.heap.size D t _ HSW.out.dice).mono ?_
                  rintro e y4 ⟨dg, rfl, hdg, hg⟩
                  replace HSW := Lib.hid (HSW.out.gave hg); clear hg
                  have HDG := Lib.hid hdg; clear hdg
                  go_wp2_with fail
                  refine pieceEnd_normal ⟨trivial, ?_⟩
                  refine flow_one (fun _ _ _ _ _ => trivial) (fun _ => trivial) 10 (by kernel_rfl) (by decide) ?_
                  simp only [pick, List.getD_cons_zero, List.getD_cons_succ]
                  go_wp2_with fail
                  refine (next_g w.heap.size D t 2 _ HSW.out.dice (by omega) (by omega)).mono ?_
                  rintro e y5 ⟨x, rfl, hx0, hx1, hg⟩
                  replace HSW := Lib.hid (HSW.out.gave hg); clear hg
                  go_wp2_with fail
                  refine pieceEnd_normal ⟨trivial, ?_⟩
                  refine flow_one (fun _ _ _ _ _ => trivial) (fun _ => trivial) 11 (by kernel_rfl) (by decide) ?_
                  simp only [pick, List.getD_cons_zero, List.getD_cons_succ]
                  have hxd : x ≤ (dg.size : Int) := by have h := HDG.out; omega
                  have HDE : Hid ((dg.extract x.toNat dg.size).size ≤ 32) := Lib.hid (by have h := HDG.out; rw [ByteArray.size_extract]; omega)
                  go_wp2_with fail
                  clear hxd hx0 hx1
                  generalize dg.extract x.toNat dg.size = de at HDE ⊢
                  refine pieceEnd_normal ⟨trivial, ?_⟩
                  refine flow_one (fun _ _ _ _ _ => trivial) (fun _ => trivial) 12 (by kernel_rfl) (by decide) ?_
                  simp only [pick, List.getD_cons_zero, List.getD_cons_succ]
                  go_wp2_with fail
                  refine pieceEnd_normal ⟨trivial, ?_⟩
                  refine flow_one (fun _ _ _ _ _ => trivial) (fun _ => trivial) 13 (by kernel_rfl) (by decide) ?_
                  simp only [pick, List.getD_cons_zero, List.getD_cons_succ]
                  go_wp2_with fail
                  refine pieceEnd_normal ⟨trivial, ?_⟩
                  refine flow_one (fun _ _ _ _ _ => trivial) (fun _ => trivial) 14 (by kernel_rfl) (by decide) ?_
                  simp only [pick, List.getD_cons_zero, List.getD_cons_succ]
                  go_wp2_with (at_builtin; go_must (refine wpList_app_newK y5 rfl (.tmp 141) (.tmp 153) 23 44 rfl (S8 + 1) Tryd.underlying23 pin_info rfl _ _ _ HSW.out.op rfl 1 #[.int .i64 a3, .int .i64 a6, .string de] rfl (by simp [Value.oneCell']) rfl rfl (by have h := HQ2.out.2.1; unfold maxLen; omega) (by have h := HQ2.out.2.1; omega) (by have h1 := HSW.out.o3; have h2 := HSW.out.lt; omega) ?_); intro v3 z3 ho hb hk1 hk2; obtain ⟨B3, k3, hv3, hr3⟩ := Row.of_own ho; subst hv3; replace HSW := Lib.hid (HSW.out.pins hb hk1 (vp' := .slice B3 (s.pins.length + 1) k3) (ps' := s.pins ++ [(⟨a3, a6, de⟩ : PinD)]) (by unfold POwn; rw [pinsC_app, List.length_append, pinsC_single]; exact ho)); clear ho hb hk1 hk2 hr3)
                  refine flow_one (fun _ _ _ _ _ => trivial) (fun _ => trivial) 15 (by kernel_rfl) (by decide) ?_
                  simp only [pick, List.getD_cons_zero, List.getD_cons_succ]
                  go_wp2_with fail
                  refine pieceEnd_normal ⟨trivial, ?_⟩
                  refine flow_one (fun _ _ _ _ _ => trivial) (fun _ => trivial) 16 (by kernel_rfl) (by decide) ?_
                  simp only [pick, List.getD_cons_zero, List.getD_cons_succ]
                  have hf9 : z3.frozen? ⟨S9, 9, none⟩ = false := frozen_of_row _ _ _ _ _ HSW.out.cur
                  have hc9 : z3.cell? ⟨S9, 9, none⟩ = some (.slice B2 m2 k2) := (cell_of_row _ _ _ _ _ _ HSW.out.cur).trans rfl
                  go_wp2_with fail
                  clear hf9 hc9
                  refine pieceEnd_normal ⟨trivial, ?_⟩
                  refine flow_done (by kernel_rfl) ?_
                  replace HSW := Lib.hid (HSW.out.set 9 (.slice B3 (s.pins.length + 1) k3))
                  go_wp2_with fail
                  go_meet
                  have hs := HSM2.out
                  exact Lib.hid (HSW.out.stop { s with pins := s.pins ++ [(⟨a3, a6, de⟩ : PinD)] } rfl rfl ⟨hs.prev, hs.list, Nat.le_trans (Nat.le_of_eq List.length_append) (Nat.le_trans (Nat.succ_le_succ HQ2.out.2.1) (by decide)), by have h1 := HQ2.out.2.2.1; have h2 := HDE.out; show (pinsBs (s.pins ++ [(⟨a3, a6, de⟩ : PinD)])).length ≤ 1500000; rw [pinsBs_snoc, List.length_append, pinBs_len]; show _ + (24 + de.size) ≤ 1500000; omega, hs.body, hs.dig⟩ (fun A3 n3 c3 B3 m3 k3 e1 e2 => by cases e1; cases e2; rfl))
                · go_wp2_with fail
                  refine (ddigest_g w.heap.size D t _ HSW.out.dice).mono ?_
                  rintro e y4 ⟨dg, rfl, hdg, hg⟩
                  replace HSW := Lib.hid (HSW.out.gave hg); clear hg
                  have HDG := Lib.hid hdg; clear hdg
                  go_wp2_with fail
                  refine pieceEnd_normal ⟨trivial, ?_⟩
                  refine flow_two (fun _ _ _ _ _ => trivial) (fun _ => trivial) 1 10 (by kernel_rfl) (by decide) (by decide) ?_ ?_ <;> simp only [pick, List.getD_cons_zero, List.getD_cons_succ]
                  · have hc9 : y4.cell? ⟨S9, 9, none⟩ = some (.slice B2 m2 k2) := (cell_of_row _ _ _ _ _ _ HSW.out.cur).trans rfl
                    go_wp2_with fail
                    clear hc9
                    refine pieceEnd_normal ⟨trivial, ?_⟩
                    refine flow_one (fun _ _ _ _ _ => trivial) (fun _ => trivial) 10 (by kernel_rfl) (by decide) ?_
                    simp only [pick, List.getD_cons_zero, List.getD_cons_succ]
                    go_wp2_with fail
                    refine (next_g w.heap.size D t 2 _ HSW.out.dice (by omega) (by omega)).mono ?_
                    rintro e y5 ⟨x, rfl, hx0, hx1, hg⟩
                    replace HSW := Lib.hid (HSW.out.gave hg); clear hg
                    go_wp2_with fail
                    refine pieceEnd_normal ⟨trivial, ?_⟩
                    refine flow_one (fun _ _ _ _ _ => trivial) (fun _ => trivial) 11 (by kernel_rfl) (by decide) ?_
                    simp only [pick, List.getD_cons_zero, List.getD_cons_succ]
                    have hxd : x ≤ (dg.size : Int) := by have h := HDG.out; omega
                    have HDE : Hid ((dg.extract x.toNat dg.size).size ≤ 32) := Lib.hid (by have h := HDG.out; rw [ByteArray.size_extract]; omega)
                    go_wp2_with fail
                    clear hxd hx0 hx1
                    generalize dg.extract x.toNat dg.size = de at HDE ⊢
                    refine pieceEnd_normal ⟨trivial, ?_⟩
                    refine flow_one (fun _ _ _ _ _ => trivial) (fun _ => trivial) 12 (by kernel_rfl) (by decide) ?_
                    simp only [pick, List.getD_cons_zero, List.getD_cons_succ]
                    go_wp2_with fail
                    refine pieceEnd_normal ⟨trivial, ?_⟩
                    refine flow_one (fun _ _ _ _ _ => trivial) (fun _ => trivial) 13 (by kernel_rfl) (by decide) ?_
                    simp only [pick, List.getD_cons_zero, List.getD_cons_succ]
                    go_wp2_with fail
                    refine pieceEnd_normal ⟨trivial, ?_⟩
                    refine flow_one (fun _ _ _ _ _ => trivial) (fun _ => trivial) 14 (by kernel_rfl) (by decide) ?_
                    simp only [pick, List.getD_cons_zero, List.getD_cons_succ]
                    go_wp2_with (at_builtin; go_must (refine wpList_app_newK y5 rfl (.tmp 141) (.tmp 153) 23 44 rfl (S8 + 1) Tryd.underlying23 pin_info rfl _ _ _ HSW.out.op rfl 1 #[.int .i64 a3, .int .i64 a6, .string de] rfl (by simp [Value.oneCell']) rfl rfl (by have h := HQ2.out.2.1; unfold maxLen; omega) (by have h := HQ2.out.2.1; omega) (by have h1 := HSW.out.o3; have h2 := HSW.out.lt; omega) ?_); intro v3 z3 ho hb hk1 hk2; obtain ⟨B3, k3, hv3, hr3⟩ := Row.of_own ho; subst hv3; replace HSW := Lib.hid (HSW.out.pins hb hk1 (vp' := .slice B3 (s.pins.length + 1) k3) (ps' := s.pins ++ [(⟨a3, a6, de⟩ : PinD)]) (by unfold POwn; rw [pinsC_app, List.length_append, pinsC_single]; exact ho)); clear ho hb hk1 hk2 hr3)
                    refine flow_one (fun _ _ _ _ _ => trivial) (fun _ => trivial) 15 (by kernel_rfl) (by decide) ?_
                    simp only [pick, List.getD_cons_zero, List.getD_cons_succ]
                    go_wp2_with fail
                    refine pieceEnd_normal ⟨trivial, ?_⟩
                    refine flow_one (fun _ _ _ _ _ => trivial) (fun _ => trivial) 16 (by kernel_rfl) (by decide) ?_
                    simp only [pick, List.getD_cons_zero, List.getD_cons_succ]
                    have hf9 : z3.frozen? ⟨S9, 9, none⟩ = false := frozen_of_row _ _ _ _ _ HSW.out.cur
                    have hc9 : z3.cell? ⟨S9, 9, none⟩ = some (.slice B2 m2 k2) := (cell_of_row _ _ _ _ _ _ HSW.out.cur).trans rfl
                    go_wp2_with fail
                    clear hf9 hc9
                    refine pieceEnd_normal ⟨trivial, ?_⟩
                    refine flow_done (by kernel_rfl) ?_
                    replace HSW := Lib.hid (HSW.out.set 9 (.slice B3 (s.pins.length + 1) k3))
                    go_wp2_with fail
                    go_meet
                    have hs := HSM2.out
                    exact Lib.hid (HSW.out.stop { s with pins := s.pins ++ [(⟨a3, a6, de⟩ : PinD)] } rfl rfl ⟨hs.prev, hs.list, Nat.le_trans (Nat.le_of_eq List.length_append) (Nat.le_trans (Nat.succ_le_succ HQ2.out.2.1) (by decide)), by have h1 := HQ2.out.2.2.1; have h2 := HDE.out; show (pinsBs (s.pins ++ [(⟨a3, a6, de⟩ : PinD)])).length ≤ 1500000; rw [pinsBs_snoc, List.length_append, pinBs_len]; show _ + (24 + de.size) ≤ 1500000; omega, hs.body, hs.dig⟩ (fun A3 n3 c3 B3 m3 k3 e1 e2 => by cases e1; cases e2; rfl))
                  · go_wp2_with fail
                    refine (next_g w.heap.size D t 2 _ HSW.out.dice (by omega) (by omega)).mono ?_
                    rintro e y5 ⟨x, rfl, hx0, hx1, hg⟩
                    replace HSW := Lib.hid (HSW.out.gave hg); clear hg
                    go_wp2_with fail
                    refine pieceEnd_normal ⟨trivial, ?_⟩
                    refine flow_two (fun _ _ _ _ _ => trivial) (fun _ => trivial) 1 11 (by kernel_rfl) (by decide) (by decide) ?_ ?_ <;> simp only [pick, List.getD_cons_zero, List.getD_cons_succ]
                    · have hc9 : y5.cell? ⟨S9, 9, none⟩ = some (.slice B2 m2 k2) := (cell_of_row _ _ _ _ _ _ HSW.out.cur).trans rfl
                      go_wp2_with fail
                      clear hc9
                      refine pieceEnd_normal ⟨trivial, ?_⟩
                      refine flow_one (fun _ _ _ _ _ => trivial) (fun _ => trivial) 11 (by kernel_rfl) (by decide) ?_
                      simp only [pick, List.getD_cons_zero, List.getD_cons_succ]
                      have hxd : x ≤ (dg.size : Int) := by have h := HDG.out; omega
                      have HDE : Hid ((dg.extract x.toNat dg.size).size ≤ 32) := Lib.hid (by have h := HDG.out; rw [ByteArray.size_extract]; omega)
                      go_wp2_with fail
                      clear hxd hx0 hx1
                      generalize dg.extract x.toNat dg.size = de at HDE ⊢
                      refine pieceEnd_normal ⟨trivial, ?_⟩
                      refine flow_one (fun _ _ _ _ _ => trivial) (fun _ => trivial) 12 (by kernel_rfl) (by decide) ?_
                      simp only [pick, List.getD_cons_zero, List.getD_cons_succ]
                      go_wp2_with fail
                      refine pieceEnd_normal ⟨trivial, ?_⟩
                      refine flow_one (fun _ _ _ _ _ => trivial) (fun _ => trivial) 13 (by kernel_rfl) (by decide) ?_
                      simp only [pick, List.getD_cons_zero, List.getD_cons_succ]
                      go_wp2_with fail
                      refine pieceEnd_normal ⟨trivial, ?_⟩
                      refine flow_one (fun _ _ _ _ _ => trivial) (fun _ => trivial) 14 (by kernel_rfl) (by decide) ?_
                      simp only [pick, List.getD_cons_zero, List.getD_cons_succ]
                      go_wp2_with (at_builtin; go_must (refine wpList_app_newK y5 rfl (.tmp 141) (.tmp 153) 23 44 rfl (S8 + 1) Tryd.underlying23 pin_info rfl _ _ _ HSW.out.op rfl 1 #[.int .i64 a3, .int .i64 a6, .string de] rfl (by simp [Value.oneCell']) rfl rfl (by have h := HQ2.out.2.1; unfold maxLen; omega) (by have h := HQ2.out.2.1; omega) (by have h1 := HSW.out.o3; have h2 := HSW.out.lt; omega) ?_); intro v3 z3 ho hb hk1 hk2; obtain ⟨B3, k3, hv3, hr3⟩ := Row.of_own ho; subst hv3; replace HSW := Lib.hid (HSW.out.pins hb hk1 (vp' := .slice B3 (s.pins.length + 1) k3) (ps' := s.pins ++ [(⟨a3, a6, de⟩ : PinD)]) (by unfold POwn; rw [pinsC_app, List.length_append, pinsC_single]; exact ho)); clear ho hb hk1 hk2 hr3)
                      refine flow_one (fun _ _ _ _ _ => trivial) (fun _ => trivial) 15 (by kernel_rfl) (by decide) ?_
                      simp only [pick, List.getD_cons_zero, List.getD_cons_succ]
                      go_wp2_with fail
                      refine pieceEnd_normal ⟨trivial, ?_⟩
                      refine flow_one (fun _ _ _ _ _ => trivial) (fun _ => trivial) 16 (by kernel_rfl) (by decide) ?_
                      simp only [pick, List.getD_cons_zero, List.getD_cons_succ]
                      have hf9 : z3.frozen? ⟨S9, 9, none⟩ = false := frozen_of_row _ _ _ _ _ HSW.out.cur
                      have hc9 : z3.cell? ⟨S9, 9, none⟩ = some (.slice B2 m2 k2) := (cell_of_row _ _ _ _ _ _ HSW.out.cur).trans rfl
                      go_wp2_with fail
                      clear hf9 hc9
                      refine pieceEnd_normal ⟨trivial, ?_⟩
                      refine flow_done (by kernel_rfl) ?_
                      replace HSW := Lib.hid (HSW.out.set 9 (.slice B3 (s.pins.length + 1) k3))
                      go_wp2_with fail
                      go_meet
                      have hs := HSM2.out
                      exact Lib.hid (HSW.out.stop { s with pins := s.pins ++ [(⟨a3, a6, de⟩ : PinD)] } rfl rfl ⟨hs.prev, hs.list, Nat.le_trans (Nat.le_of_eq List.length_append) (Nat.le_trans (Nat.succ_le_succ HQ2.out.2.1) (by decide)), by have h1 := HQ2.out.2.2.1; have h2 := HDE.out; show (pinsBs (s.pins ++ [(⟨a3, a6, de⟩ : PinD)])).length ≤ 1500000; rw [pinsBs_snoc, List.length_append, pinBs_len]; show _ + (24 + de.size) ≤ 1500000; omega, hs.body, hs.dig⟩ (fun A3 n3 c3 B3 m3 k3 e1 e2 => by cases e1; cases e2; rfl))
                    · have hxd : x ≤ (dg.size : Int) := by have h := HDG.out; omega
                      have HDE : Hid ((dg.extract x.toNat dg.size).size ≤ 32) := Lib.hid (by have h := HDG.out; rw [ByteArray.size_extract]; omega)
                      go_wp2_with fail
                      clear hxd hx0 hx1
                      generalize dg.extract x.toNat dg.size = de at HDE ⊢
                      refine pieceEnd_normal ⟨trivial, ?_⟩
                      refine flow_two (fun _ _ _ _ _ => trivial) (fun _ => trivial) 1 12 (by kernel_rfl) (by decide) (by decide) ?_ ?_ <;> simp only [pick, List.getD_cons_zero, List.getD_cons_succ]
                      · have hc9 : y5.cell? ⟨S9, 9, none⟩ = some (.slice B2 m2 k2) := (cell_of_row _ _ _ _ _ _ HSW.out.cur).trans rfl
                        go_wp2_with fail
                        clear hc9
                        refine pieceEnd_normal ⟨trivial, ?_⟩
                        refine flow_one (fun _ _ _ _ _ => trivial) (fun _ => trivial) 12 (by kernel_rfl) (by decide) ?_
                        simp only [pick, List.getD_cons_zero, List.getD_cons_succ]
                        go_wp2_with fail
                        refine pieceEnd_normal ⟨trivial, ?_⟩
                        refine flow_one (fun _ _ _ _ _ => trivial) (fun _ => trivial) 13 (by kernel_rfl) (by decide) ?_
                        simp only [pick, List.getD_cons_zero, List.getD_cons_succ]
                        go_wp2_with fail
                        refine pieceEnd_normal ⟨trivial, ?_⟩
                        refine flow_one (fun _ _ _ _ _ => trivial) (fun _ => trivial) 14 (by kernel_rfl) (by decide) ?_
                        simp only [pick, List.getD_cons_zero, List.getD_cons_succ]
                        go_wp2_with (at_builtin; go_must (refine wpList_app_newK y5 rfl (.tmp 141) (.tmp 153) 23 44 rfl (S8 + 1) Tryd.underlying23 pin_info rfl _ _ _ HSW.out.op rfl 1 #[.int .i64 a3, .int .i64 a6, .string de] rfl (by simp [Value.oneCell']) rfl rfl (by have h := HQ2.out.2.1; unfold maxLen; omega) (by have h := HQ2.out.2.1; omega) (by have h1 := HSW.out.o3; have h2 := HSW.out.lt; omega) ?_); intro v3 z3 ho hb hk1 hk2; obtain ⟨B3, k3, hv3, hr3⟩ := Row.of_own ho; subst hv3; replace HSW := Lib.hid (HSW.out.pins hb hk1 (vp' := .slice B3 (s.pins.length + 1) k3) (ps' := s.pins ++ [(⟨a3, a6, de⟩ : PinD)]) (by unfold POwn; rw [pinsC_app, List.length_append, pinsC_single]; exact ho)); clear ho hb hk1 hk2 hr3)
                        refine flow_one (fun _ _ _ _ _ => trivial) (fun _ => trivial) 15 (by kernel_rfl) (by decide) ?_
                        simp only [pick, List.getD_cons_zero, List.getD_cons_succ]
                        go_wp2_with fail
                        refine pieceEnd_normal ⟨trivial, ?_⟩
                        refine flow_one (fun _ _ _ _ _ => trivial) (fun _ => trivial) 16 (by kernel_rfl) (by decide) ?_
                        simp only [pick, List.getD_cons_zero, List.getD_cons_succ]
                        have hf9 : z3.frozen? ⟨S9, 9, none⟩ = false := frozen_of_row _ _ _ _ _ HSW.out.cur
                        have hc9 : z3.cell? ⟨S9, 9, none⟩ = some (.slice B2 m2 k2) := (cell_of_row _ _ _ _ _ _ HSW.out.cur).trans rfl
                        go_wp2_with fail
                        clear hf9 hc9
                        refine pieceEnd_normal ⟨trivial, ?_⟩
                        refine flow_done (by kernel_rfl) ?_
                        replace HSW := Lib.hid (HSW.out.set 9 (.slice B3 (s.pins.length + 1) k3))
                        go_wp2_with fail
                        go_meet
                        have hs := HSM2.out
                        exact Lib.hid (HSW.out.stop { s with pins := s.pins ++ [(⟨a3, a6, de⟩ : PinD)] } rfl rfl ⟨hs.prev, hs.list, Nat.le_trans (Nat.le_of_eq List.length_append) (Nat.le_trans (Nat.succ_le_succ HQ2.out.2.1) (by decide)), by have h1 := HQ2.out.2.2.1; have h2 := HDE.out; show (pinsBs (s.pins ++ [(⟨a3, a6, de⟩ : PinD)])).length ≤ 1500000; rw [pinsBs_snoc, List.length_append, pinBs_len]; show _ + (24 + de.size) ≤ 1500000; omega, hs.body, hs.dig⟩ (fun A3 n3 c3 B3 m3 k3 e1 e2 => by cases e1; cases e2; rfl))
                      · go_wp2_with fail
                        refine pieceEnd_normal ⟨trivial, ?_⟩
                        refine flow_two (fun _ _ _ _ _ => trivial) (fun _ => trivial) 1 13 (by kernel_rfl) (by decide) (by decide) ?_ ?_ <;> simp only [pick, List.getD_cons_zero, List.getD_cons_succ]
                        · have hc9 : y5.cell? ⟨S9, 9, none⟩ = some (.slice B2 m2 k2) := (cell_of_row _ _ _ _ _ _ HSW.out.cur).trans rfl
                          go_wp2_with fail
                          clear hc9
                          refine pieceEnd_normal ⟨trivial, ?_⟩
                          refine flow_one (fun _ _ _ _ _ => trivial) (fun _ => trivial) 13 (by kernel_rfl) (by decide) ?_
                          simp only [pick, List.getD_cons_zero, List.getD_cons_succ]
                          go_wp2_with fail
                          refine pieceEnd_normal ⟨trivial, ?_⟩
                          refine flow_one (fun _ _ _ _ _ => trivial) (fun _ => trivial) 14 (by kernel_rfl) (by decide) ?_
                          simp only [pick, List.getD_cons_zero, List.getD_cons_succ]
                          go_wp2_with (at_builtin; go_must (refine wpList_app_newK y5 rfl (.tmp 141) (.tmp 153) 23 44 rfl (S8 + 1) Tryd.underlying23 pin_info rfl _ _ _ HSW.out.op rfl 1 #[.int .i64 a3, .int .i64 a6, .string de] rfl (by simp [Value.oneCell']) rfl rfl (by have h := HQ2.out.2.1; unfold maxLen; omega) (by have h := HQ2.out.2.1; omega) (by have h1 := HSW.out.o3; have h2 := HSW.out.lt; omega) ?_); intro v3 z3 ho hb hk1 hk2; obtain ⟨B3, k3, hv3, hr3⟩ := Row.of_own ho; subst hv3; replace HSW := Lib.hid (HSW.out.pins hb hk1 (vp' := .slice B3 (s.pins.length + 1) k3) (ps' := s.pins ++ [(⟨a3, a6, de⟩ : PinD)]) (by unfold POwn; rw [pinsC_app, List.length_append, pinsC_single]; exact ho)); clear ho hb hk1 hk2 hr3)
                          refine flow_one (fun _ _ _ _ _ => trivial) (fun _ => trivial) 15 (by kernel_rfl) (by decide) ?_
                          simp only [pick, List.getD_cons_zero, List.getD_cons_succ]
                          go_wp2_with fail
                          refine pieceEnd_normal ⟨trivial, ?_⟩
                          refine flow_one (fun _ _ _ _ _ => trivial) (fun _ => trivial) 16 (by kernel_rfl) (by decide) ?_
                          simp only [pick, List.getD_cons_zero, List.getD_cons_succ]
                          have hf9 : z3.frozen? ⟨S9, 9, none⟩ = false := frozen_of_row _ _ _ _ _ HSW.out.cur
                          have hc9 : z3.cell? ⟨S9, 9, none⟩ = some (.slice B2 m2 k2) := (cell_of_row _ _ _ _ _ _ HSW.out.cur).trans rfl
                          go_wp2_with fail
                          clear hf9 hc9
                          refine pieceEnd_normal ⟨trivial, ?_⟩
                          refine flow_done (by kernel_rfl) ?_
                          replace HSW := Lib.hid (HSW.out.set 9 (.slice B3 (s.pins.length + 1) k3))
                          go_wp2_with fail
                          go_meet
                          have hs := HSM2.out
                          exact Lib.hid (HSW.out.stop { s with pins := s.pins ++ [(⟨a3, a6, de⟩ : PinD)] } rfl rfl ⟨hs.prev, hs.list, Nat.le_trans (Nat.le_of_eq List.length_append) (Nat.le_trans (Nat.succ_le_succ HQ2.out.2.1) (by decide)), by have h1 := HQ2.out.2.2.1; have h2 := HDE.out; show (pinsBs (s.pins ++ [(⟨a3, a6, de⟩ : PinD)])).length ≤ 1500000; rw [pinsBs_snoc, List.length_append, pinBs_len]; show _ + (24 + de.size) ≤ 1500000; omega, hs.body, hs.dig⟩ (fun A3 n3 c3 B3 m3 k3 e1 e2 => by cases e1; cases e2; rfl))
                        · go_wp2_with fail
                          refine pieceEnd_normal ⟨trivial, ?_⟩
                          refine flow_one (fun _ _ _ _ _ => trivial) (fun _ => trivial) 1 (by kernel_rfl) (by decide) ?_
                          simp only [pick, List.getD_cons_zero, List.getD_cons_succ]
                          have HSA := Lib.hid (HSW.out.later (one_new y5 (.cells #[.int .i64 a3, .int .i64 a6, .string de] 44)))
                          have hc9 : (y5.alloc (.cells #[.int .i64 a3, .int .i64 a6, .string de] 44)).cell? ⟨S9, 9, none⟩ = some (.slice B2 m2 k2) := (cell_of_row _ _ _ _ _ _ HSA.out.cur).trans rfl
                          go_wp2_with fail
                          clear hc9
                          clear HSA
                          refine pieceEnd_normal ⟨trivial, ?_⟩
                          refine flow_one (fun _ _ _ _ _ => trivial) (fun _ => trivial) 14 (by kernel_rfl) (by decide) ?_
                          simp only [pick, List.getD_cons_zero, List.getD_cons_succ]
                          go_wp2_with (at_builtin; go_must (refine wpList_app_newK y5 rfl (.tmp 141) (.tmp 153) 23 44 rfl (S8 + 1) Tryd.underlying23 pin_info rfl _ _ _ HSW.out.op rfl 1 #[.int .i64 a3, .int .i64 a6, .string de] rfl (by simp [Value.oneCell']) rfl rfl (by have h := HQ2.out.2.1; unfold maxLen; omega) (by have h := HQ2.out.2.1; omega) (by have h1 := HSW.out.o3; have h2 := HSW.out.lt; omega) ?_); intro v3 z3 ho hb hk1 hk2; obtain ⟨B3, k3, hv3, hr3⟩ := Row.of_own ho; subst hv3; replace HSW := Lib.hid (HSW.out.pins hb hk1 (vp' := .slice B3 (s.pins.length + 1) k3) (ps' := s.pins ++ [(⟨a3, a6, de⟩ : PinD)]) (by unfold POwn; rw [pinsC_app, List.length_append, pinsC_single]; exact ho)); clear ho hb hk1 hk2 hr3)
                          refine flow_one (fun _ _ _ _ _ => trivial) (fun _ => trivial) 15 (by kernel_rfl) (by decide) ?_
                          simp only [pick, List.getD_cons_zero, List.getD_cons_succ]
                          go_wp2_with fail
                          refine pieceEnd_normal ⟨trivial, ?_⟩
                          refine flow_one (fun _ _ _ _ _ => trivial) (fun _ => trivial) 16 (by kernel_rfl) (by decide) ?_
                          simp only [pick, List.getD_cons_zero, List.getD_cons_succ]
                          have hf9 : z3.frozen? ⟨S9, 9, none⟩ = false := frozen_of_row _ _ _ _ _ HSW.out.cur
                          have hc9 : z3.cell? ⟨S9, 9, none⟩ = some (.slice B2 m2 k2) := (cell_of_row _ _ _ _ _ _ HSW.out.cur).trans rfl
                          go_wp2_with fail
                          clear hf9 hc9
                          refine pieceEnd_normal ⟨trivial, ?_⟩
                          refine flow_done (by kernel_rfl) ?_
                          replace HSW := Lib.hid (HSW.out.set 9 (.slice B3 (s.pins.length + 1) k3))
                          go_wp2_with fail
                          go_meet
                          have hs := HSM2.out
                          exact Lib.hid (HSW.out.stop { s with pins := s.pins ++ [(⟨a3, a6, de⟩ : PinD)] } rfl rfl ⟨hs.prev, hs.list, Nat.le_trans (Nat.le_of_eq List.length_append) (Nat.le_trans (Nat.succ_le_succ HQ2.out.2.1) (by decide)), by have h1 := HQ2.out.2.2.1; have h2 := HDE.out; show (pinsBs (s.pins ++ [(⟨a3, a6, de⟩ : PinD)])).length ≤ 1500000; rw [pinsBs_snoc, List.length_append, pinBs_len]; show _ + (24 + de.size) ≤ 1500000; omega, hs.body, hs.dig⟩ (fun A3 n3 c3 B3 m3 k3 e1 e2 => by cases e1; cases e2; rfl))
        · as_aux_lemma =>
            go_wp2_with fail
            refine pieceEnd_normal ⟨trivial, ?_⟩
            have hlow : D < x0.heap.size := by have h1 := HSW.out.o2; have h2 := HSW.out.o3; have h3 := HSW.out.lt; omega
            have HR : Hid (Row (x0.alloc (.cells #[.int .i64 1, .int .i64 0, .int .i64 200, .int .i64 201] 3)) (some ⟨x0.heap.size, 0, none⟩) 4 4 1 (intsV [1, 0, 200, 201])) := Lib.hid (Row.of_block (cs := (intsV [1, 0, 200, 201]).toArray) (heap_alloc_new _ _) rfl)
            replace HSW := Lib.hid (HSW.out.later (one_new x0 (.cells #[.int .i64 1, .int .i64 0, .int .i64 200, .int .i64 201] 3)))
            generalize x0.alloc (.cells #[.int .i64 1, .int .i64 0, .int .i64 200, .int .i64 201] 3) = y1 at HSW HR ⊢
            generalize x0.heap.size = pb at HR hlow ⊢
            refine flow_two (fun _ _ _ _ _ => trivial) (fun _ => trivial) 1 3 (by kernel_rfl) (by decide) (by decide) ?_ ?_ <;> simp only [pick, List.getD_cons_zero, List.getD_cons_succ]
            · have hc9 : y1.cell? ⟨S9, 9, none⟩ = some (.slice B2 m2 k2) := (cell_of_row _ _ _ _ _ _ HSW.out.cur).trans rfl
              go_wp2_with fail
              clear hc9
              refine pieceEnd_normal ⟨trivial, ?_⟩
              refine flow_one (fun _ _ _ _ _ => trivial) (fun _ => trivial) 3 (by kernel_rfl) (by decide) ?_
              simp only [pick, List.getD_cons_zero, List.getD_cons_succ]
              go_wp2_with fail
              refine (next_g w.heap.size D t 3 _ HSW.out.dice (by omega) (by omega)).mono ?_
              rintro e y2 ⟨a3, rfl, -, -, hg⟩
              replace HR := Lib.hid (Row.but HR.out hg.2 fun ad e _ => by injection e with e; subst e; show pb ≠ D; omega)
              replace HSW := Lib.hid (HSW.out.gave hg); clear hg
              go_wp2_with fail
              refine pieceEnd_normal ⟨trivial, ?_⟩
              refine flow_one (fun _ _ _ _ _ => trivial) (fun _ => trivial) 6 (by kernel_rfl) (by decide) ?_
              simp only [pick, List.getD_cons_zero, List.getD_cons_succ]
              go_wp2_with fail
              refine (of_g w.heap.size D t (some ⟨pb, 0, none⟩) 4 4 [1, 0, 200, 201] y2 HSW.out.dice HR.out (fun ad e => by injection e with e; subst e; show pb ≠ D; omega) (by omega) (by omega)).mono ?_
              clear hlow HR
              rintro e y3 ⟨a6, rfl, -, hg⟩
              replace HSW := Lib.hid (HSW.out.gave hg); clear hg
              go_wp2_with fail
              refine pieceEnd_normal ⟨trivial, ?_⟩
              refine flow_one (fun _ _ _ _ _ => trivial) (fun _ => trivial) 8 (by kernel_rfl) (by decide) ?_
              simp only [pick, List.getD_cons_zero, List.getD_cons_succ]
              go_wp2_with fail
              refine (ddigest_g w.heap.size D t _ HSW.out.dice).mono ?_
              rintro e y4 ⟨dg, rfl, hdg, hg⟩
              replace HSW := Lib.hid (HSW.out.gave hg); clear hg
              have HDG := Lib.hid hdg; clear hdg
              go_wp2_with fail
              refine pieceEnd_normal ⟨trivial, ?_⟩
              refine flow_one (fun _ _ _ _ _ => trivial) (fun _ => trivial) 10 (by kernel_rfl) (by decide) ?_
              simp only [pick, List.getD_cons_zero, List.getD_cons_succ]
              go_wp2_with fail
              refine (next_g w.heap.size D t 2 _ HSW.out.dice (by omega) (by omega)).mono ?_
              rintro e y5 ⟨x, rfl, hx0, hx1, hg⟩
              replace HSW := Lib.hid (HSW.out.gave hg); clear hg
              go_wp2_with fail
              refine pieceEnd_normal ⟨trivial, ?_⟩
              refine flow_one (fun _ _ _ _ _ => trivial) (fun _ => trivial) 11 (by kernel_rfl) (by decide) ?_
              simp only [pick, List.getD_cons_zero, List.getD_cons_succ]
              have hxd : x ≤ (dg.size : Int) := by have h := HDG.out; omega
              have HDE : Hid ((dg.extract x.toNat dg.size).size ≤ 32) := Lib.hid (by have h := HDG.out; rw [ByteArray.size_extract]; omega)
              go_wp2_with fail
              clear hxd hx0 hx1
              generalize dg.extract x.toNat dg.size = de at HDE ⊢
              refine pieceEnd_normal ⟨trivial, ?_⟩
              refine flow_one (fun _ _ _ _ _ => trivial) (fun _ => trivial) 12 (by kernel_rfl) (by decide) ?_
              simp only [pick, List.getD_cons_zero, List.getD_cons_succ]
              go_wp2_with fail
              refine pieceEnd_normal ⟨trivial, ?_⟩
              refine flow_one (fun _ _ _ _ _ => trivial) (fun _ => trivial) 13 (by kernel_rfl) (by decide) ?_
              simp only [pick, List.getD_cons_zero, List.getD_cons_succ]
              go_wp2_with fail
              refine pieceEnd_normal ⟨trivial, ?_⟩
              refine flow_one (fun _ _ _ _ _ => trivial) (fun _ => trivial) 14 (by kernel_rfl) (by decide) ?_
              simp only [pick, List.getD_cons_zero, List.getD_cons_succ]
              go_wp2_with (at_builtin; go_must (refine wpList_app_newK y5 rfl (.tmp 141) (.tmp 153) 23 44 rfl (S8 + 1) Tryd.underlying23 pin_info rfl _ _ _ HSW.out.op rfl 1 #[.int .i64 a3, .int .i64 a6, .string de] rfl (by simp [Value.oneCell']) rfl rfl (by have h := HQ2.out.2.1; unfold maxLen; omega) (by have h := HQ2.out.2.1; omega) (by have h1 := HSW.out.o3; have h2 := HSW.out.lt; omega) ?_); intro v3 z3 ho hb hk1 hk2; obtain ⟨B3, k3, hv3, hr3⟩ := Row.of_own ho; subst hv3; replace HSW := Lib.hid (HSW.out.pins hb hk1 (vp' := .slice B3 (s.pins.length + 1) k3) (ps' := s.pins ++ [(⟨a3, a6, de⟩ : PinD)]) (by unfold POwn; rw [pinsC_app, List.length_append, pinsC_single]; exact ho)); clear ho hb hk1 hk2 hr3)
              refine flow_one (fun _ _ _ _ _ => trivial) (fun _ => trivial) 15 (by kernel_rfl) (by decide) ?_
              simp only [pick, List.getD_cons_zero, List.getD_cons_succ]
              go_wp2_with fail
              refine pieceEnd_normal ⟨trivial, ?_⟩
              refine flow_one (fun _ _ _ _ _ => trivial) (fun _ => trivial) 16 (by kernel_rfl) (by decide) ?_
              simp only [pick, List.getD_cons_zero, List.getD_cons_succ]
              have hf9 : z3.frozen? ⟨S9, 9, none⟩ = false := frozen_of_row _ _ _ _ _ HSW.out.cur
              have hc9 : z3.cell? ⟨S9, 9, none⟩ = some (.slice B2 m2 k2) := (cell_of_row _ _ _ _ _ _ HSW.out.cur).trans rfl
              go_wp2_with fail
              clear hf9 hc9
              refine pieceEnd_normal ⟨trivial, ?_⟩
              refine flow_done (by kernel_rfl) ?_
              replace HSW := Lib.hid (HSW.out.set 9 (.slice B3 (s.pins.length + 1) k3))
              go_wp2_with fail
              go_meet
              have hs := HSM2.out
              exact Lib.hid (HSW.out.stop { s with pins := s.pins ++ [(⟨a3, a6, de⟩ : PinD)] } rfl rfl ⟨hs.prev, hs.list, Nat.le_trans (Nat.le_of_eq List.length_append) (Nat.le_trans (Nat.succ_le_succ HQ2.out.2.1) (by decide)), by have h1 := HQ2.out.2.2.1; have h2 := HDE.out; show (pinsBs (s.pins ++ [(⟨a3, a6, de⟩ : PinD)])).length ≤ 1500000; rw [pinsBs_snoc, List.length_append, pinBs_len]; show _ + (24 + de.size) ≤ 1500000; omega, hs.body, hs.dig⟩ (fun A3 n3 c3 B3 m3 k3 e1 e2 => by cases e1; cases e2; rfl))
            · go_wp2_with fail
              refine (next_g w.heap.size D t 3 _ HSW.out.dice (by omega) (by omega)).mono ?_
              rintro e y2 ⟨a3, rfl, -, -, hg⟩
              replace HR := Lib.hid (Row.but HR.out hg.2 fun ad e _ => by injection e with e; subst e; show pb ≠ D; omega)
              replace HSW := Lib.hid (HSW.out.gave hg); clear hg
              go_wp2_with fail
              refine pieceEnd_normal ⟨trivial, ?_⟩
              refine flow_two (fun _ _ _ _ _ => trivial) (fun _ => trivial) 1 6 (by kernel_rfl) (by decide) (by decide) ?_ ?_ <;> simp only [pick, List.getD_cons_zero, List.getD_cons_succ]
              · have hc9 : y2.cell? ⟨S9, 9, none⟩ = some (.slice B2 m2 k2) := (cell_of_row _ _ _ _ _ _ HSW.out.cur).trans rfl
                go_wp2_with fail
                clear hc9
                refine pieceEnd_normal ⟨trivial, ?_⟩
                refine flow_one (fun _ _ _ _ _ => trivial) (fun _ => trivial) 6 (by kernel_rfl) (by decide) ?_
                simp only [pick, List.getD_cons_zero, List.getD_cons_succ]
                go_wp2_with fail
                refine (of_g w.heap.size D t (some ⟨pb, 0, none⟩) 4 4 [1, 0, 200, 201] y2 HSW.out.dice HR.out (fun ad e => by injection e with e; subst e; show pb ≠ D; omega) (by omega) (by omega)).mono ?_
                clear hlow HR
                rintro e y3 ⟨a6, rfl, -, hg⟩
                replace HSW := Lib.hid (HSW.out.gave hg); clear hg
                go_wp2_with fail
                refine pieceEnd_normal ⟨trivial, ?_⟩
                refine flow_one (fun _ _ _ _ _ => trivial) (fun _ => trivial) 8 (by kernel_rfl) (by decide) ?_
                simp only [pick, List.getD_cons_zero, List.getD_cons_succ]
                go_wp2_with fail
                refine (ddigest_g w.heap.size D t _ HSW.out.dice).mono ?_
                rintro e y4 ⟨dg, rfl, hdg, hg⟩
                replace HSW := Lib.hid (HSW.out.gave hg); clear hg
                have HDG := Lib.hid hdg; clear hdg
                go_wp2_with fail
                refine pieceEnd_normal ⟨trivial, ?_⟩
                refine flow_one (fun _ _ _ _ _ => trivial) (fun _ => trivial) 10 (by kernel_rfl) (by decide) ?_
                simp only [pick, List.getD_cons_zero, List.getD_cons_succ]
                go_wp2_with fail
                refine (next_g w.heap.size D t 2 _ HSW.out.dice (by omega) (by omega)).mono ?_
                rintro e y5 ⟨x, rfl, hx0, hx1, hg⟩
                replace HSW := Lib.hid (HSW.out.gave hg); clear hg
                go_wp2_with fail
                refine pieceEnd_normal ⟨trivial, ?_⟩
                refine flow_one (fun _ _ _ _ _ => trivial) (fun _ => trivial) 11 (by kernel_rfl) (by decide) ?_
                simp only [pick, List.getD_cons_zero, List.getD_cons_succ]
                have hxd : x ≤ (dg.size : Int) := by have h := HDG.out; omega
                have HDE : Hid ((dg.extract x.toNat dg.size).size ≤ 32) := Lib.hid (by have h := HDG.out; rw [ByteArray.size_extract]; omega)
                go_wp2_with fail
                clear hxd hx0 hx1
                generalize dg.extract x.toNat dg.size = de at HDE ⊢
                refine pieceEnd_normal ⟨trivial, ?_⟩
                refine flow_one (fun _ _ _ _ _ => trivial) (fun _ => trivial) 12 (by kernel_rfl) (by decide) ?_
                simp only [pick, List.getD_cons_zero, List.getD_cons_succ]
                go_wp2_with fail
                refine pieceEnd_normal ⟨trivial, ?_⟩
                refine flow_one (fun _ _ _ _ _ => trivial) (fun _ => trivial) 13 (by kernel_rfl) (by decide) ?_
                simp only [pick, List.getD_cons_zero, List.getD_cons_succ]
                go_wp2_with fail
                refine pieceEnd_normal ⟨trivial, ?_⟩
                refine flow_one (fun _ _ _ _ _ => trivial) (fun _ => trivial) 14 (by kernel_rfl) (by decide) ?_
                simp only [pick, List.getD_cons_zero, List.getD_cons_succ]
                go_wp2_with (at_builtin; go_must (refine wpList_app_newK y5 rfl (.tmp 141) (.tmp 153) 23 44 rfl (S8 + 1) Tryd.underlying23 pin_info rfl _ _ _ HSW.out.op rfl 1 #[.int .i64 a3, .int .i64 a6, .string de] rfl (by simp [Value.oneCell']) rfl rfl (by have h := HQ2.out.2.1; unfold maxLen; omega) (by have h := HQ2.out.2.1; omega) (by have h1 := HSW.out.o3; have h2 := HSW.out.lt; omega) ?_); intro v3 z3 ho hb hk1 hk2; obtain ⟨B3, k3, hv3, hr3⟩ := Row.of_own ho; subst hv3; replace HSW := Lib.hid (HSW.out.pins hb hk1 (vp' := .slice B3 (s.pins.length + 1) k3) (ps' := s.pins ++ [(⟨a3, a6, de⟩ : PinD)]) (by unfold POwn; rw [pinsC_app, List.length_append, pinsC_single]; exact ho)); clear ho hb hk1 hk2 hr3)
                refine flow_one (fun _ _ _ _ _ => trivial) (fun _ => trivial) 15 (by kernel_rfl) (by decide) ?_
                simp only [pick, List.getD_cons_zero, List.getD_cons_succ]
                go_wp2_with fail
                refine pieceEnd_normal ⟨trivial, ?_⟩
                refine flow_one (fun _ _ _ _ _ => trivial) (fun _ => trivial) 16 (by kernel_rfl) (by decide) ?_
                simp only [pick, List.getD_cons_zero, List.getD_cons_succ]
                have hf9 : z3.frozen? ⟨S9, 9, none⟩ = false := frozen_of_row _ _ _ _ _ HSW.out.cur
                have hc9 : z3.cell? ⟨S9, 9, none⟩ = some (.slice B2 m2 k2) := (cell_of_row _ _ _ _ _ _ HSW.out.cur).trans rfl
                go_wp2_with fail
                clear hf9 hc9
                refine pieceEnd_normal ⟨trivial, ?_⟩
                refine flow_done (by kernel_rfl) ?_
                replace HSW := Lib.hid (HSW.out.set 9 (.slice B3 (s.pins.length + 1) k3))
                go_wp2_with fail
                go_meet
                have hs := HSM2.out
                exact Lib.hid (HSW.out.stop { s with pins := s.pins ++ [(⟨a3, a6, de⟩ : PinD)] } rfl rfl ⟨hs.prev, hs.list, Nat.le_trans (Nat.le_of_eq List.length_append) (Nat.le_trans (Nat.succ_le_succ HQ2.out.2.1) (by decide)), by have h1 := HQ2.out.2.2.1; have h2 := HDE.out; show (pinsBs (s.pins ++ [(⟨a3, a6, de⟩ : PinD)])).length ≤ 1500000; rw [pinsBs_snoc, List.length_append, pinBs_len]; show _ + (24 + de.size) ≤ 1500000; omega, hs.body, hs.dig⟩ (fun A3 n3 c3 B3 m3 k3 e1 e2 => by cases e1; cases e2; rfl))
              · go_wp2_with fail
                refine (of_g w.heap.size D t (some ⟨pb, 0, none⟩) 4 4 [1, 0, 200, 201] y2 HSW.out.dice HR.out (fun ad e => by injection e with e; subst e; show pb ≠ D; omega) (by omega) (by omega)).mono ?_
                clear hlow HR
                rintro e y3 ⟨a6, rfl, -, hg⟩
                replace HSW := Lib.hid (HSW.out.gave hg); clear hg
                go_wp2_with fail
                refine pieceEnd_normal ⟨trivial, ?_⟩
                refine flow_two (fun _ _ _ _ _ => trivial) (fun _ => trivial) 1 8 (by kernel_rfl) (by decide) (by decide) ?_ ?_ <;> simp only [pick, List.getD_cons_zero, List.getD_cons_succ]
                · have hc9 : y3.cell? ⟨S9, 9, none⟩ = some (.slice B2 m2 k2) := (cell_of_row _ _ _ _ _ _ HSW.out.cur).trans rfl
                  go_wp2_with fail
                  clear hc9
                  refine pieceEnd_normal ⟨trivial, ?_⟩
                  refine flow_one (fun _ _ _ _ _ => trivial) (fun _ => trivial) 8 (by kernel_rfl) (by decide) ?_
                  simp only [pick, List.getD_cons_zero, List.getD_cons_succ]
                  go_wp2_with fail
                  refine (ddigest_g w.heap.size D t _ HSW.out.dice).mono ?_
                  rintro e y4 ⟨dg, rfl, hdg, hg⟩
                  replace HSW := Lib.hid (HSW.out.gave hg); clear hg
                  have HDG := Lib.hid hdg; clear hdg
                  go_wp2_with fail
                  refine pieceEnd_normal ⟨trivial, ?_⟩
                  refine flow_one (fun _ _ _ _ _ => trivial) (fun _ => trivial) 10 (by kernel_rfl) (by decide) ?_
                  simp only [pick, List.getD_cons_zero, List.getD_cons_succ]
                  go_wp2_with fail
                  refine (next_g w.heap.size D t 2 _ HSW.out.dice (by omega) (by omega)).mono ?_
                  rintro e y5 ⟨x, rfl, hx0, hx1, hg⟩
                  replace HSW := Lib.hid (HSW.out.gave hg); clear hg
                  go_wp2_with fail
                  refine pieceEnd_normal ⟨trivial, ?_⟩
                  refine flow_one (fun _ _ _ _ _ => trivial) (fun _ => trivial) 11 (by kernel_rfl) (by decide) ?_
                  simp only [pick, List.getD_cons_zero, List.getD_cons_succ]
                  have hxd : x ≤ (dg.size : Int) := by have h := HDG.out; omega
                  have HDE : Hid ((dg.extract x.toNat dg.size).size ≤ 32) := Lib.hid (by have h := HDG.out; rw [ByteArray.size_extract]; omega)
                  go_wp2_with fail
                  clear hxd hx0 hx1
                  generalize dg.extract x.toNat dg.size = de at HDE ⊢
                  refine pieceEnd_normal ⟨trivial, ?_⟩
                  refine flow_one (fun _ _ _ _ _ => trivial) (fun _ => trivial) 12 (by kernel_rfl) (by decide) ?_
                  simp only [pick, List.getD_cons_zero, List.getD_cons_succ]
                  go_wp2_with fail
                  refine pieceEnd_normal ⟨trivial, ?_⟩
                  refine flow_one (fun _ _ _ _ _ => trivial) (fun _ => trivial) 13 (by kernel_rfl) (by decide) ?_
                  simp only [pick, List.getD_cons_zero, List.getD_cons_succ]
                  go_wp2_with fail
                  refine pieceEnd_normal ⟨trivial, ?_⟩
                  refine flow_one (fun _ _ _ _ _ => trivial) (fun _ => trivial) 14 (by kernel_rfl) (by decide) ?_
                  simp only [pick, List.getD_cons_zero, List.getD_cons_succ]
                  go_wp2_with (at_builtin; go_must (refine wpList_app_newK y5 rfl (.tmp 141) (.tmp 153) 23 44 rfl (S8 + 1) Tryd.underlying23 pin_info rfl _ _ _ HSW.out.op rfl 1 #[.int .i64 a3, .int .i64 a6, .string de] rfl (by simp [Value.oneCell']) rfl rfl (by have h := HQ2.out.2.1; unfold maxLen; omega) (by have h := HQ2.out.2.1; omega) (by have h1 := HSW.out.o3; have h2 := HSW.out.lt; omega) ?_); intro v3 z3 ho hb hk1 hk2; obtain ⟨B3, k3, hv3, hr3⟩ := Row.of_own ho; subst hv3; replace HSW := Lib.hid (HSW.out.pins hb hk1 (vp' := .slice B3 (s.pins.length + 1) k3) (ps' := s.pins ++ [(⟨a3, a6, de⟩ : PinD)]) (by unfold POwn; rw [pinsC_app, List.length_append, pinsC_single]; exact ho)); clear ho hb hk1 hk2 hr3)
                  refine flow_one (fun _ _ _ _ _ => trivial) (fun _ => trivial) 15 (by kernel_rfl) (by decide) ?_
                  simp only [pick, List.getD_cons_zero, List.getD_cons_succ]
                  go_wp2_with fail
                  refine pieceEnd_normal ⟨trivial, ?_⟩
                  refine flow_one (fun _ _ _ _ _ => trivial) (fun _ => trivial) 16 (by kernel_rfl) (by decide) ?_
                  simp only [pick, List.getD_cons_zero, List.getD_cons_succ]
                  have hf9 : z3.frozen? ⟨S9, 9, none⟩ = false := frozen_of_row _ _ _ _ _ HSW.out.cur
                  have hc9 : z3.cell? ⟨S9, 9, none⟩ = some (.slice B2 m2 k2) := (cell_of_row _ _ _ _ _ _ HSW.out.cur).trans rfl
                  go_wp2_with fail
                  clear hf9 hc9
                  refine pieceEnd_normal ⟨trivial, ?_⟩
                  refine flow_done (by kernel_rfl) ?_
                  replace HSW := Lib.hid (HSW.out.set 9 (.slice B3 (s.pins.length + 1) k3))
                  go_wp2_with fail
                  go_meet
                  have hs := HSM2.out
                  exact Lib.hid (HSW.out.stop { s with pins := s.pins ++ [(⟨a3, a6, de⟩ : PinD)] } rfl rfl ⟨hs.prev, hs.list, Nat.le_trans (Nat.le_of_eq List.length_append) (Nat.le_trans (Nat.succ_le_succ HQ2.out.2.1) (by decide)), by have h1 := HQ2.out.2.2.1; have h2 := HDE.out; show (pinsBs (s.pins ++ [(⟨a3, a6, de⟩ : PinD)])).length ≤ 1500000; rw [pinsBs_snoc, List.length_append, pinBs_len]; show _ + (24 + de.size) ≤ 1500000; omega, hs.body, hs.dig⟩ (fun A3 n3 c3 B3 m3 k3 e1 e2 => by cases e1; cases e2; rfl))
                · go_wp2_with fail
                  refine (ddigest_g w.heap.size D t _ HSW.out.dice).mono ?_
                  rintro e y4 ⟨dg, rfl, hdg, hg⟩
                  replace HSW := Lib.hid (HSW.out.gave hg); clear hg
                  have HDG := Lib.hid hdg; clear hdg
                  go_wp2_with fail
                  refine pieceEnd_normal ⟨trivial, ?_⟩
                  refine flow_two (fun _ _ _ _ _ => trivial) (fun _ => trivial) 1 10 (by kernel_rfl) (by decide) (by decide) ?_ ?_ <;> simp only [pick, List.getD_cons_zero, List.getD_cons_succ]
                  · have hc9 : y4.cell? ⟨S9, 9, none⟩ = some (.slice B2 m2 k2) := (cell_of_row _ _ _ _ _ _ HSW.out.cur).trans rfl
                    go_wp2_with fail
                    clear hc9
                    refine pieceEnd_normal ⟨trivial, ?_⟩
                    refine flow_one (fun _ _ _ _ _ => trivial) (fun _ => trivial) 10 (by kernel_rfl) (by decide) ?_
                    simp only [pick, List.getD_cons_zero, List.getD_cons_succ]
                    go_wp2_with fail
                    refine (next_g w.heap.size D t 2 _ HSW.out.dice (by omega) (by omega)).mono ?_
                    rintro e y5 ⟨x, rfl, hx0, hx1, hg⟩
                    replace HSW := Lib.hid (HSW.out.gave hg); clear hg
                    go_wp2_with fail
                    refine pieceEnd_normal ⟨trivial, ?_⟩
                    refine flow_one (fun _ _ _ _ _ => trivial) (fun _ => trivial) 11 (by kernel_rfl) (by decide) ?_
                    simp only [pick, List.getD_cons_zero, List.getD_cons_succ]
                    have hxd : x ≤ (dg.size : Int) := by have h := HDG.out; omega
                    have HDE : Hid ((dg.extract x.toNat dg.size).size ≤ 32) := Lib.hid (by have h := HDG.out; rw [ByteArray.size_extract]; omega)
                    go_wp2_with fail
                    clear hxd hx0 hx1
                    generalize dg.extract x.toNat dg.size = de at HDE ⊢
                    refine pieceEnd_normal ⟨trivial, ?_⟩
                    refine flow_one (fun _ _ _ _ _ => trivial) (fun _ => trivial) 12 (by kernel_rfl) (by decide) ?_
                    simp only [pick, List.getD_cons_zero, List.getD_cons_succ]
                    go_wp2_with fail
                    refine pieceEnd_normal ⟨trivial, ?_⟩
                    refine flow_one (fun _ _ _ _ _ => trivial) (fun _ => trivial) 13 (by kernel_rfl) (by decide) ?_
                    simp only [pick, List.getD_cons_zero, List.getD_cons_succ]
                    go_wp2_with fail
                    refine pieceEnd_normal ⟨trivial, ?_⟩
                    refine flow_one (fun _ _ _ _ _ => trivial) (fun _ => trivial) 14 (by kernel_rfl) (by decide) ?_
                    simp only [pick, List.getD_cons_zero, List.getD_cons_succ]
                    go_wp2_with (at_builtin; go_must (refine wpList_app_newK y5 rfl (.tmp 141) (.tmp 153) 23 44 rfl (S8 + 1) Tryd.underlying23 pin_info rfl _ _ _ HSW.out.op rfl 1 #[.int .i64 a3, .int .i64 a6, .string de] rfl (by simp [Value.oneCell']) rfl rfl (by have h := HQ2.out.2.1; unfold maxLen; omega) (by have h := HQ2.out.2.1; omega) (by have h1 := HSW.out.o3; have h2 := HSW.out.lt; omega) ?_); intro v3 z3 ho hb hk1 hk2; obtain ⟨B3, k3, hv3, hr3⟩ := Row.of_own ho; subst hv3; replace HSW := Lib.hid (HSW.out.pins hb hk1 (vp' := .slice B3 (s.pins.length + 1) k3) (ps' := s.pins ++ [(⟨a3, a6, de⟩ : PinD)]) (by unfold POwn; rw [pinsC_app, List.length_append, pinsC_single]; exact ho)); clear ho hb hk1 hk2 hr3)
                    refine flow_one (fun _ _ _ _ _ => trivial) (fun _ => trivial) 15 (by kernel_rfl) (by decide) ?_
                    simp only [pick, List.getD_cons_zero, List.getD_cons_succ]
                    go_wp2_with fail
                    refine pieceEnd_normal ⟨trivial, ?_⟩
                    refine flow_one (fun _ _ _ _ _ => trivial) (fun _ => trivial) 16 (by kernel_rfl) (by decide) ?_
                    simp only [pick, List.getD_cons_zero, List.getD_cons_succ]
                    have hf9 : z3.frozen? ⟨S9, 9, none⟩ = false := frozen_of_row _ _ _ _ _ HSW.out.cur
                    have hc9 : z3.cell? ⟨S9, 9, none⟩ = some (.slice B2 m2 k2) := (cell_of_row _ _ _ _ _ _ HSW.out.cur).trans rfl
                    go_wp2_with fail
                    clear hf9 hc9
                    refine pieceEnd_normal ⟨trivial, ?_⟩
                    refine flow_done (by kernel_rfl) ?_
                    replace HSW := Lib.hid (HSW.out.set 9 (.slice B3 (s.pins.length + 1) k3))
                    go_wp2_with fail
                    go_meet
                    have hs := HSM2.out
                    exact Lib.hid (HSW.out.stop { s with pins := s.pins ++ [(⟨a3, a6, de⟩ : PinD)] } rfl rfl ⟨hs.prev, hs.list, Nat.le_trans (Nat.le_of_eq List.length_append) (Nat.le_trans (Nat.succ_le_succ HQ2.out.2.1) (by decide)), by have h1 := HQ2.out.2.2.1; have h2 := HDE.out; show (pinsBs (s.pins ++ [(⟨a3, a6, de⟩ : PinD)])).length ≤ 1500000; rw [pinsBs_snoc, List.length_append, pinBs_len]; show _ + (24 + de.size) ≤ 1500000; omega, hs.body, hs.dig⟩ (fun A3 n3 c3 B3 m3 k3 e1 e2 => by cases e1; cases e2; rfl))
                  · go_wp2_with fail
                    refine (next_g w.heap.size D t 2 _ HSW.out.dice (by omega) (by omega)).mono ?_
                    rintro e y5 ⟨x, rfl, hx0, hx1, hg⟩
                    replace HSW := Lib.hid (HSW.out.gave hg); clear hg
                    go_wp2_with fail
                    refine pieceEnd_normal ⟨trivial, ?_⟩
                    refine flow_two (fun _ _ _ _ _ => trivial) (fun _ => trivial) 1 11 (by kernel_rfl) (by decide) (by decide) ?_ ?_ <;> simp only [pick, List.getD_cons_zero, List.getD_cons_succ]
                    · have hc9 : y5.cell? ⟨S9, 9, none⟩ = some (.slice B2 m2 k2) := (cell_of_row _ _ _ _ _ _ HSW.out.cur).trans rfl
                      go_wp2_with fail
                      clear hc9
                      refine pieceEnd_normal ⟨trivial, ?_⟩
                      refine flow_one (fun _ _ _ _ _ => trivial) (fun _ => trivial) 11 (by kernel_rfl) (by decide) ?_
                      simp only [pick, List.getD_cons_zero, List.getD_cons_succ]
                      have hxd : x ≤ (dg.size : Int) := by have h := HDG.out; omega
                      have HDE : Hid ((dg.extract x.toNat dg.size).size ≤ 32) := Lib.hid (by have h := HDG.out; rw [ByteArray.size_extract]; omega)
                      go_wp2_with fail
                      clear hxd hx0 hx1
                      generalize dg.extract x.toNat dg.size = de at HDE ⊢
                      refine pieceEnd_normal ⟨trivial, ?_⟩
                      refine flow_one (fun _ _ _ _ _ => trivial) (fun _ => trivial) 12 (by kernel_rfl) (by decide) ?_
                      simp only [pick, List.getD_cons_zero, List.getD_cons_succ]
                      go_wp2_with fail
                      refine pieceEnd_normal ⟨trivial, ?_⟩
                      refine flow_one (fun _ _ _ _ _ => trivial) (fun _ => trivial) 13 (by kernel_rfl) (by decide) ?_
                      simp only [pick, List.getD_cons_zero, List.getD_cons_succ]
                      go_wp2_with fail
                      refine pieceEnd_normal ⟨trivial, ?_⟩
                      refine flow_one (fun _ _ _ _ _ => trivial) (fun _ => trivial) 14 (by kernel_rfl) (by decide) ?_
                      simp only [pick, List.getD_cons_zero, List.getD_cons_succ]
                      go_wp2_with (at_builtin; go_must (refine wpList_app_newK y5 rfl (.tmp 141) (.tmp 153) 23 44 rfl (S8 + 1) Tryd.underlying23 pin_info rfl _ _ _ HSW.out.op rfl 1 #[.int .i64 a3, .int .i64 a6, .string de] rfl (by simp [Value.oneCell']) rfl rfl (by have h := HQ2.out.2.1; unfold maxLen; omega) (by have h := HQ2.out.2.1; omega) (by have h1 := HSW.out.o3; have h2 := HSW.out.lt; omega) ?_); intro v3 z3 ho hb hk1 hk2; obtain ⟨B3, k3, hv3, hr3⟩ := Row.of_own ho; subst hv3; replace HSW := Lib.hid (HSW.out.pins hb hk1 (vp' := .slice B3 (s.pins.length + 1) k3) (ps' := s.pins ++ [(⟨a3, a6, de⟩ : PinD)]) (by unfold POwn; rw [pinsC_app, List.length_append, pinsC_single]; exact ho)); clear ho hb hk1 hk2 hr3)
                      refine flow_one (fun _ _ _ _ _ => trivial) (fun _ => trivial) 15 (by kernel_rfl) (by decide) ?_
                      simp only [pick, List.getD_cons_zero, List.getD_cons_succ]
                      go_wp2_with fail
                      refine pieceEnd_normal ⟨trivial, ?_⟩
                      refine flow_one (fun _ _ _ _ _ => trivial) (fun _ => trivial) 16 (by kernel_rfl) (by decide) ?_
                      simp only [pick, List.getD_cons_zero, List.getD_cons_succ]
                      have hf9 : z3.frozen? ⟨S9, 9, none⟩ = false := frozen_of_row _ _ _ _ _ HSW.out.cur
                      have hc9 : z3.cell? ⟨S9, 9, none⟩ = some (.slice B2 m2 k2) := (cell_of_row _ _ _ _ _ _ HSW.out.cur).trans rfl
                      go_wp2_with fail
                      clear hf9 hc9
                      refine pieceEnd_normal ⟨trivial, ?_⟩
                      refine flow_done (by kernel_rfl) ?_
                      replace HSW := Lib.hid (HSW.out.set 9 (.slice B3 (s.pins.length + 1) k3))
                      go_wp2_with fail
                      go_meet
                      have hs := HSM2.out
                      exact Lib.hid (HSW.out.stop { s with pins := s.pins ++ [(⟨a3, a6, de⟩ : PinD)] } rfl rfl ⟨hs.prev, hs.list, Nat.le_trans (Nat.le_of_eq List.length_append) (Nat.le_trans (Nat.succ_le_succ HQ2.out.2.1) (by decide)), by have h1 := HQ2.out.2.2.1; have h2 := HDE.out; show (pinsBs (s.pins ++ [(⟨a3, a6, de⟩ : PinD)])).length ≤ 1500000; rw [pinsBs_snoc, List.length_append, pinBs_len]; show _ + (24 + de.size) ≤ 1500000; omega, hs.body, hs.dig⟩ (fun A3 n3 c3 B3 m3 k3 e1 e2 => by cases e1; cases e2; rfl))
                    · have hxd : x ≤ (dg.size : Int) := by have h := HDG.out; omega
                      have HDE : Hid ((dg.extract x.toNat dg.size).size ≤ 32) := Lib.hid (by have h := HDG.out; rw [ByteArray.size_extract]; omega)
                      go_wp2_with fail
                      clear hxd hx0 hx1
                      generalize dg.extract x.toNat dg.size = de at HDE ⊢
                      refine pieceEnd_normal ⟨trivial, ?_⟩
                      refine flow_two (fun _ _ _ _ _ => trivial) (fun _ => trivial) 1 12 (by kernel_rfl) (by decide) (by decide) ?_ ?_ <;> simp only [pick, List.getD_cons_zero, List.getD_cons_succ]
                      · have hc9 : y5.cell? ⟨S9, 9, none⟩ = some (.slice B2 m2 k2) := (cell_of_row _ _ _ _ _ _ HSW.out.cur).trans rfl
                        go_wp2_with fail
                        clear hc9
                        refine pieceEnd_normal ⟨trivial, ?_⟩
                        refine flow_one (fun _ _ _ _ _ => trivial) (fun _ => trivial) 12 (by kernel_rfl) (by decide) ?_
                        simp only [pick, List.getD_cons_zero, List.getD_cons_succ]
                        go_wp2_with fail
                        refine pieceEnd_normal ⟨trivial, ?_⟩
                        refine flow_one (fun _ _ _ _ _ => trivial) (fun _ => trivial) 13 (by kernel_rfl) (by decide) ?_
                        simp only [pick, List.getD_cons_zero, List.getD_cons_succ]
                        go_wp2_with fail
                        refine pieceEnd_normal ⟨trivial, ?_⟩
                        refine flow_one (fun _ _ _ _ _ => trivial) (fun _ => trivial) 14 (by kernel_rfl) (by decide) ?_
                        simp only [pick, List.getD_cons_zero, List.getD_cons_succ]
                        go_wp2_with (at_builtin; go_must (refine wpList_app_newK y5 rfl (.tmp 141) (.tmp 153) 23 44 rfl (S8 + 1) Tryd.underlying23 pin_info rfl _ _ _ HSW.out.op rfl 1 #[.int .i64 a3, .int .i64 a6, .string de] rfl (by simp [Value.oneCell']) rfl rfl (by have h := HQ2.out.2.1; unfold maxLen; omega) (by have h := HQ2.out.2.1; omega) (by have h1 := HSW.out.o3; have h2 := HSW.out.lt; omega) ?_); intro v3 z3 ho hb hk1 hk2; obtain ⟨B3, k3, hv3, hr3⟩ := Row.of_own ho; subst hv3; replace HSW := Lib.hid (HSW.out.pins hb hk1 (vp' := .slice B3 (s.pins.length + 1) k3) (ps' := s.pins ++ [(⟨a3, a6, de⟩ : PinD)]) (by unfold POwn; rw [pinsC_app, List.length_append, pinsC_single]; exact ho)); clear ho hb hk1 hk2 hr3)
                        refine flow_one (fun _ _ _ _ _ => trivial) (fun _ => trivial) 15 (by kernel_rfl) (by decide) ?_
                        simp only [pick, List.getD_cons_zero, List.getD_cons_succ]
                        go_wp2_with fail
                        refine pieceEnd_normal ⟨trivial, ?_⟩
                        refine flow_one (fun _ _ _ _ _ => trivial) (fun _ => trivial) 16 (by kernel_rfl) (by decide) ?_
                        simp only [pick, List.getD_cons_zero, List.getD_cons_succ]
                        have hf9 : z3.frozen? ⟨S9, 9, none⟩ = false := frozen_of_row _ _ _ _ _ HSW.out.cur
                        have hc9 : z3.cell? ⟨S9, 9, none⟩ = some (.slice B2 m2 k2) := (cell_of_row _ _ _ _ _ _ HSW.out.cur).trans rfl
                        go_wp2_with fail
                        clear hf9 hc9
                        refine pieceEnd_normal ⟨trivial, ?_⟩
                        refine flow_done (by kernel_rfl) ?_
                        replace HSW := Lib.hid (HSW.out.set 9 (.slice B3 (s.pins.length + 1) k3))
                        go_wp2_with fail
                        go_meet
                        have hs := HSM2.out
                        exact Lib.hid (HSW.out.stop { s with pins := s.pins ++ [(⟨a3, a6, de⟩ : PinD)] } rfl rfl ⟨hs.prev, hs.list, Nat.le_trans (Nat.le_of_eq List.length_append) (Nat.le_trans (Nat.succ_le_succ HQ2.out.2.1) (by decide)), by have h1 := HQ2.out.2.2.1; have h2 := HDE.out; show (pinsBs (s.pins ++ [(⟨a3, a6, de⟩ : PinD)])).length ≤ 1500000; rw [pinsBs_snoc, List.length_append, pinBs_len]; show _ + (24 + de.size) ≤ 1500000; omega, hs.body, hs.dig⟩ (fun A3 n3 c3 B3 m3 k3 e1 e2 => by cases e1; cases e2; rfl))
                      · go_wp2_with fail
                        refine pieceEnd_normal ⟨trivial, ?_⟩
                        refine flow_two (fun _ _ _ _ _ => trivial) (fun _ => trivial) 1 13 (by kernel_rfl) (by decide) (by decide) ?_ ?_ <;> simp only [pick, List.getD_cons_zero, List.getD_cons_succ]
                        · have hc9 : y5.cell? ⟨S9, 9, none⟩ = some (.slice B2 m2 k2) := (cell_of_row _ _ _ _ _ _ HSW.out.cur).trans rfl
                          go_wp2_with fail
                          clear hc9
                          refine pieceEnd_normal ⟨trivial, ?_⟩
                          refine flow_one (fun _ _ _ _ _ => trivial) (fun _ => trivial) 13 (by kernel_rfl) (by decide) ?_
                          simp only [pick, List.getD_cons_zero, List.getD_cons_succ]
                          go_wp2_with fail
                          refine pieceEnd_normal ⟨trivial, ?_⟩
                          refine flow_one (fun _ _ _ _ _ => trivial) (fun _ => trivial) 14 (by kernel_rfl) (by decide) ?_
                          simp only [pick, List.getD_cons_zero, List.getD_cons_succ]
                          go_wp2_with (at_builtin; go_must (refine wpList_app_newK y5 rfl (.tmp 141) (.tmp 153) 23 44 rfl (S8 + 1) Tryd.underlying23 pin_info rfl _ _ _ HSW.out.op rfl 1 #[.int .i64 a3, .int .i64 a6, .string de] rfl (by simp [Value.oneCell']) rfl rfl (by have h := HQ2.out.2.1; unfold maxLen; omega) (by have h := HQ2.out.2.1; omega) (by have h1 := HSW.out.o3; have h2 := HSW.out.lt; omega) ?_); intro v3 z3 ho hb hk1 hk2; obtain ⟨B3, k3, hv3, hr3⟩ := Row.of_own ho; subst hv3; replace HSW := Lib.hid (HSW.out.pins hb hk1 (vp' := .slice B3 (s.pins.length + 1) k3) (ps' := s.pins ++ [(⟨a3, a6, de⟩ : PinD)]) (by unfold POwn; rw [pinsC_app, List.length_append, pinsC_single]; exact ho)); clear ho hb hk1 hk2 hr3)
                          refine flow_one (fun _ _ _ _ _ => trivial) (fun _ => trivial) 15 (by kernel_rfl) (by decide) ?_
                          simp only [pick, List.getD_cons_zero, List.getD_cons_succ]
                          go_wp2_with fail
                          refine pieceEnd_normal ⟨trivial, ?_⟩
                          refine flow_one (fun _ _ _ _ _ => trivial) (fun _ => trivial) 16 (by kernel_rfl) (by decide) ?_
                          simp only [pick, List.getD_cons_zero, List.getD_cons_succ]
                          have hf9 : z3.frozen? ⟨S9, 9, none⟩ = false := frozen_of_row _ _ _ _ _ HSW.out.cur
                          have hc9 : z3.cell? ⟨S9, 9, none⟩ = some (.slice B2 m2 k2) := (cell_of_row _ _ _ _ _ _ HSW.out.cur).trans rfl
                          go_wp2_with fail
                          clear hf9 hc9
                          refine pieceEnd_normal ⟨trivial, ?_⟩
                          refine flow_done (by kernel_rfl) ?_
                          replace HSW := Lib.hid (HSW.out.set 9 (.slice B3 (s.pins.length + 1) k3))
                          go_wp2_with fail
                          go_meet
                          have hs := HSM2.out
                          exact Lib.hid (HSW.out.stop { s with pins := s.pins ++ [(⟨a3, a6, de⟩ : PinD)] } rfl rfl ⟨hs.prev, hs.list, Nat.le_trans (Nat.le_of_eq List.length_append) (Nat.le_trans (Nat.succ_le_succ HQ2.out.2.1) (by decide)), by have h1 := HQ2.out.2.2.1; have h2 := HDE.out; show (pinsBs (s.pins ++ [(⟨a3, a6, de⟩ : PinD)])).length ≤ 1500000; rw [pinsBs_snoc, List.length_append, pinBs_len]; show _ + (24 + de.size) ≤ 1500000; omega, hs.body, hs.dig⟩ (fun A3 n3 c3 B3 m3 k3 e1 e2 => by cases e1; cases e2; rfl))
                        · go_wp2_with fail
                          refine pieceEnd_normal ⟨trivial, ?_⟩
                          refine flow_one (fun _ _ _ _ _ => trivial) (fun _ => trivial) 1 (by kernel_rfl) (by decide) ?_
                          simp only [pick, List.getD_cons_zero, List.getD_cons_succ]
                          have HSA := Lib.hid (HSW.out.later (one_new y5 (.cells #[.int .i64 a3, .int .i64 a6, .string de] 44)))
                          have hc9 : (y5.alloc (.cells #[.int .i64 a3, .int .i64 a6, .string de] 44)).cell? ⟨S9, 9, none⟩ = some (.slice B2 m2 k2) := (cell_of_row _ _ _ _ _ _ HSA.out.cur).trans rfl
                          go_wp2_with fail
                          clear hc9
                          clear HSA
                          refine pieceEnd_normal ⟨trivial, ?_⟩
                          refine flow_one (fun _ _ _ _ _ => trivial) (fun _ => trivial) 14 (by kernel_rfl) (by decide) ?_
                          simp only [pick, List.getD_cons_zero, List.getD_cons_succ]
                          go_wp2_with (at_builtin; go_must (refine wpList_app_newK y5 rfl (.tmp 141) (.tmp 153) 23 44 rfl (S8 + 1) Tryd.underlying23 pin_info rfl _ _ _ HSW.out.op rfl 1 #[.int .i64 a3, .int .i64 a6, .string de] rfl (by simp [Value.oneCell']) rfl rfl (by have h := HQ2.out.2.1; unfold maxLen; omega) (by have h := HQ2.out.2.1; omega) (by have h1 := HSW.out.o3; have h2 := HSW.out.lt; omega) ?_); intro v3 z3 ho hb hk1 hk2; obtain ⟨B3, k3, hv3, hr3⟩ := Row.of_own ho; subst hv3; replace HSW := Lib.hid (HSW.out.pins hb hk1 (vp' := .slice B3 (s.pins.length + 1) k3) (ps' := s.pins ++ [(⟨a3, a6, de⟩ : PinD)]) (by unfold POwn; rw [pinsC_app, List.length_append, pinsC_single]; exact ho)); clear ho hb hk1 hk2 hr3)
                          refine flow_one (fun _ _ _ _ _ => trivial) (fun _ => trivial) 15 (by kernel_rfl) (by decide) ?_
                          simp only [pick, List.getD_cons_zero, List.getD_cons_succ]
                          go_wp2_with fail
                          refine pieceEnd_normal ⟨trivial, ?_⟩
                          refine flow_one (fun _ _ _ _ _ => trivial) (fun _ => trivial) 16 (by kernel_rfl) (by decide) ?_
                          simp only [pick, List.getD_cons_zero, List.getD_cons_succ]
                          have hf9 : z3.frozen? ⟨S9, 9, none⟩ = false := frozen_of_row _ _ _ _ _ HSW.out.cur
                          have hc9 : z3.cell? ⟨S9, 9, none⟩ = some (.slice B2 m2 k2) := (cell_of_row _ _ _ _ _ _ HSW.out.cur).trans rfl
                          go_wp2_with fail
                          clear hf9 hc9
                          refine pieceEnd_normal ⟨trivial, ?_⟩
                          refine flow_done (by kernel_rfl) ?_
                          replace HSW := Lib.hid (HSW.out.set 9 (.slice B3 (s.pins.length + 1) k3))
                          go_wp2_with fail
                          go_meet
                          have hs := HSM2.out
                          exact Lib.hid (HSW.out.stop { s with pins := s.pins ++ [(⟨a3, a6, de⟩ : PinD)] } rfl rfl ⟨hs.prev, hs.list, Nat.le_trans (Nat.le_of_eq List.length_append) (Nat.le_trans (Nat.succ_le_succ HQ2.out.2.1) (by decide)), by have h1 := HQ2.out.2.2.1; have h2 := HDE.out; show (pinsBs (s.pins ++ [(⟨a3, a6, de⟩ : PinD)])).length ≤ 1500000; rw [pinsBs_snoc, List.length_append, pinBs_len]; show _ + (24 + de.size) ≤ 1500000; omega, hs.body, hs.dig⟩ (fun A3 n3 c3 B3 m3 k3 e1 e2 => by cases e1; cases e2; rfl))
      · as_aux_lemma =>
          go_wp2_with fail
          refine wp_region_flow (by kernel_rfl) (fun _ _ => True) ?_
          replace HSW := Lib.hid (HSW.out.later (Later.drew w7))
          generalize w7.drew = x0 at HSW ⊢
          refine flow_reads (fun _ => trivial) (by kernel_rfl) [0, 2] (fuel := 8) (by kernel_rfl) ?_
          simp only [List.map_cons, List.map_nil, pick, List.getD_cons_zero, List.getD_cons_succ]
          repeat (go_big_quiet_step (fail))
          refine wpQuiet_nil ?_
          refine flow_two (fun _ _ _ _ _ => trivial) (fun _ => trivial) 1 3 (by kernel_rfl) (by decide) (by decide) ?_ ?_ <;> simp only [pick, List.getD_cons_zero, List.getD_cons_succ]
          ·
              have hc10 : x0.cell? ⟨S9, 10, none⟩ = some (.string s.body) := (cell_of_row _ _ _ _ _ _ HSW.out.cur).trans rfl
              go_wp2_with fail
              clear hc10
              refine pieceEnd_normal ⟨trivial, ?_⟩
              refine flow_one (fun _ _ _ _ _ => trivial) (fun _ => trivial) 3 (by kernel_rfl) (by decide) ?_
              simp only [pick, List.getD_cons_zero, List.getD_cons_succ]
              go_wp2_with fail
              refine pieceEnd_normal ⟨trivial, ?_⟩
              have hlow : D < x0.heap.size := by have h1 := HSW.out.o2; have h2 := HSW.out.o3; have h3 := HSW.out.lt; omega
              have HR : Hid (Row (x0.alloc (.cells #[.int .i64 1, .int .i64 4096, .int .i64 4097] 3)) (some ⟨x0.heap.size, 0, none⟩) 3 3 1 (intsV [1, 4096, 4097])) := Lib.hid (Row.of_block (cs := (intsV [1, 4096, 4097]).toArray) (heap_alloc_new _ _) rfl)
              replace HSW := Lib.hid (HSW.out.later (one_new x0 (.cells #[.int .i64 1, .int .i64 4096, .int .i64 4097] 3)))
              generalize x0.alloc (.cells #[.int .i64 1, .int .i64 4096, .int .i64 4097] 3) = x1 at HSW HR ⊢
              refine flow_one (fun _ _ _ _ _ => trivial) (fun _ => trivial) 4 (by kernel_rfl) (by decide) ?_
              simp only [pick, List.getD_cons_zero, List.getD_cons_succ]
              go_wp2_with fail
              refine (of_g w.heap.size D t (some ⟨x0.heap.size, 0, none⟩) 3 3 [1, 4096, 4097] x1 HSW.out.dice HR.out (fun ad e => by injection e with e; subst e; show x0.heap.size ≠ D; omega) (by omega) (by omega)).mono ?_
              clear hlow HR
              rintro e x2 ⟨q, rfl, hin, hg⟩
              replace HSW := Lib.hid (HSW.out.gave hg); clear hg
              have hq : 0 ≤ q ∧ q ≤ 4097 := by simp at hin; omega
              clear hin
              obtain ⟨N, rfl⟩ : ∃ N : Nat, q = N := ⟨q.toNat, by omega⟩
              have hN : N ≤ 4097 := by omega
              clear hq
              go_wp2_with fail
              refine pieceEnd_normal ⟨trivial, ?_⟩
              refine flow_one (fun _ _ _ _ _ => trivial) (fun _ => trivial) 5 (by kernel_rfl) (by decide) ?_
              simp only [pick, List.getD_cons_zero, List.getD_cons_succ]
              go_wp2_with (at_make; go_must (refine wpList_make _ rfl (.tmp 162) (.tmp 162) 28 5 rfl x2.heap.size Tryd.underlying28 u8_info rfl N N rfl rfl rfl rfl (Nat.le_refl _) (by omega) (by unfold maxLen; omega) (Nat.le_refl _) ?_); intro x3 ho hb; obtain ⟨A3, c3, hv3, hr3⟩ := Row.of_own ho; cases hv3; replace HSW := Lib.hid (HSW.out.later hb); clear ho hb; have HV := Lib.hid hr3; clear hr3)
              have hbr : BRow x3 (some ⟨x2.heap.size, 0, none⟩) N N (List.replicate N 0) := by unfold BRow; rw [show bytesV (List.replicate N (0 : UInt8)) = List.replicate N (Value.int .u8 0) by unfold bytesV; rw [List.map_replicate]; rfl]; exact HV.out
              have hcv := conv_at hbr (Below.refl _ _) rfl
              clear hbr HV
              refine flow_one (fun _ _ _ _ _ => trivial) (fun _ => trivial) 6 (by kernel_rfl) (by decide) ?_
              simp only [pick, List.getD_cons_zero, List.getD_cons_succ]
              go_wp2_with fail
              clear hcv
              refine pieceEnd_normal ⟨trivial, ?_⟩
              refine flow_one (fun _ _ _ _ _ => trivial) (fun _ => trivial) 7 (by kernel_rfl) (by decide) ?_
              simp only [pick, List.getD_cons_zero, List.getD_cons_succ]
              have hs5 : s.body.size ≤ 5 := HQ2.out.2.2.2.1
              have hs6 : (strOf (List.replicate N 0)).size ≤ 4097 := by rw [strOf_size, List.length_replicate]; omega
              go_wp2_with fail
              clear hs5 hs6
              refine pieceEnd_normal ⟨trivial, ?_⟩
              refine flow_one (fun _ _ _ _ _ => trivial) (fun _ => trivial) 8 (by kernel_rfl) (by decide) ?_
              simp only [pick, List.getD_cons_zero, List.getD_cons_succ]
              go_wp2_with fail
              refine pieceEnd_normal ⟨trivial, ?_⟩
              refine flow_one (fun _ _ _ _ _ => trivial) (fun _ => trivial) 9 (by kernel_rfl) (by decide) ?_
              simp only [pick, List.getD_cons_zero, List.getD_cons_succ]
              have hf10 : x3.frozen? ⟨S9, 10, none⟩ = false := frozen_of_row _ _ _ _ _ HSW.out.cur
              have hc10 : x3.cell? ⟨S9, 10, none⟩ = some (.string s.body) := (cell_of_row _ _ _ _ _ _ HSW.out.cur).trans rfl
              go_wp2_with fail
              clear hf10 hc10
              refine pieceEnd_normal ⟨trivial, ?_⟩
              refine flow_done (by kernel_rfl) ?_
              replace HSW := Lib.hid (HSW.out.set 10 (.string (s.body ++ strOf (List.replicate N 0))))
              have HN := Lib.hid hN; clear hN
              go_wp2_with fail
              go_meet
              have hs := HSM2.out
              exact Lib.hid (HSW.out.stop { s with body := s.body ++ strOf (List.replicate N 0) } rfl rfl ⟨hs.prev, hs.list, hs.pins, hs.all, by have h1 := HQ2.out.2.2.2.1; have h2 := HN.out; show (s.body ++ strOf (List.replicate N 0)).size ≤ 100000; rw [ByteArray.size_append, strOf_size, List.length_replicate]; omega, hs.dig⟩ (fun A3 n3 c3 B3 m3 k3 e1 e2 => by cases e1; cases e2; rfl))
          · go_wp2_with fail
            refine pieceEnd_normal ⟨trivial, ?_⟩
            have hlow : D < x0.heap.size := by have h1 := HSW.out.o2; have h2 := HSW.out.o3; have h3 := HSW.out.lt; omega
            have HR : Hid (Row (x0.alloc (.cells #[.int .i64 1, .int .i64 4096, .int .i64 4097] 3)) (some ⟨x0.heap.size, 0, none⟩) 3 3 1 (intsV [1, 4096, 4097])) := Lib.hid (Row.of_block (cs := (intsV [1, 4096, 4097]).toArray) (heap_alloc_new _ _) rfl)
            replace HSW := Lib.hid (HSW.out.later (one_new x0 (.cells #[.int .i64 1, .int .i64 4096, .int .i64 4097] 3)))
            generalize x0.alloc (.cells #[.int .i64 1, .int .i64 4096, .int .i64 4097] 3) = x1 at HSW HR ⊢
            refine flow_two (fun _ _ _ _ _ => trivial) (fun _ => trivial) 1 4 (by kernel_rfl) (by decide) (by decide) ?_ ?_ <;> simp only [pick, List.getD_cons_zero, List.getD_cons_succ]
            ·
                have hc10 : x1.cell? ⟨S9, 10, none⟩ = some (.string s.body) := (cell_of_row _ _ _ _ _ _ HSW.out.cur).trans rfl
                go_wp2_with fail
                clear hc10
                refine pieceEnd_normal ⟨trivial, ?_⟩
                refine flow_one (fun _ _ _ _ _ => trivial) (fun _ => trivial) 4 (by kernel_rfl) (by decide) ?_
                simp only [pick, List.getD_cons_zero, List.getD_cons_succ]
                go_wp2_with fail
                refine (of_g w.heap.size D t (some ⟨x0.heap.size, 0, none⟩) 3 3 [1, 4096, 4097] x1 HSW.out.dice HR.out (fun ad e => by injection e with e; subst e; show x0.heap.size ≠ D; omega) (by omega) (by omega)).mono ?_
                clear hlow HR
                rintro e x2 ⟨q, rfl, hin, hg⟩
                replace HSW := Lib.hid (HSW.out.gave hg); clear hg
                have hq : 0 ≤ q ∧ q ≤ 4097 := by simp at hin; omega
                clear hin
                obtain ⟨N, rfl⟩ : ∃ N : Nat, q = N := ⟨q.toNat, by omega⟩
                have hN : N ≤ 4097 := by omega
                clear hq
                go_wp2_with fail
                refine pieceEnd_normal ⟨trivial, ?_⟩
                refine flow_one (fun _ _ _ _ _ => trivial) (fun _ => trivial) 5 (by kernel_rfl) (by decide) ?_
                simp only [pick, List.getD_cons_zero, List.getD_cons_succ]
                go_wp2_with (at_make; go_must (refine wpList_make _ rfl (.tmp 162) (.tmp 162) 28 5 rfl x2.heap.size Tryd.underlying28 u8_info rfl N N rfl rfl rfl rfl (Nat.le_refl _) (by omega) (by unfold maxLen; omega) (Nat.le_refl _) ?_); intro x3 ho hb; obtain ⟨A3, c3, hv3, hr3⟩ := Row.of_own ho; cases hv3; replace HSW := Lib.hid (HSW.out.later hb); clear ho hb; have HV := Lib.hid hr3; clear hr3)
                have hbr : BRow x3 (some ⟨x2.heap.size, 0, none⟩) N N (List.replicate N 0) := by unfold BRow; rw [show bytesV (List.replicate N (0 : UInt8)) = List.replicate N (Value.int .u8 0) by unfold bytesV; rw [List.map_replicate]; rfl]; exact HV.out
                have hcv := conv_at hbr (Below.refl _ _) rfl
                clear hbr HV
                refine flow_one (fun _ _ _ _ _ => trivial) (fun _ => trivial) 6 (by kernel_rfl) (by decide) ?_
                simp only [pick, List.getD_cons_zero, List.getD_cons_succ]
                go_wp2_with fail
                clear hcv
                refine pieceEnd_normal ⟨trivial, ?_⟩
                refine flow_one (fun _ _ _ _ _ => trivial) (fun _ => trivial) 7 (by kernel_rfl) (by decide) ?_
                simp only [pick, List.getD_cons_zero, List.getD_cons_succ]
                have hs5 : s.body.size ≤ 5 := HQ2.out.2.2.2.1
                have hs6 : (strOf (List.replicate N 0)).size ≤ 4097 := by rw [strOf_size, List.length_replicate]; omega
                go_wp2_with fail
                clear hs5 hs6
                refine pieceEnd_normal ⟨trivial, ?_⟩
                refine flow_one (fun _ _ _ _ _ => trivial) (fun _ => trivial) 8 (by kernel_rfl) (by decide) ?_
                simp only [pick, List.getD_cons_zero, List.getD_cons_succ]
                go_wp2_with fail
                refine pieceEnd_normal ⟨trivial, ?_⟩
                refine flow_one (fun _ _ _ _ _ => trivial) (fun _ => trivial) 9 (by kernel_rfl) (by decide) ?_
                simp only [pick, List.getD_cons_zero, List.getD_cons_succ]
                have hf10 : x3.frozen? ⟨S9, 10, none⟩ = false := frozen_of_row _ _ _ _ _ HSW.out.cur
                have hc10 : x3.cell? ⟨S9, 10, none⟩ = some (.string s.body) := (cell_of_row _ _ _ _ _ _ HSW.out.cur).trans rfl
                go_wp2_with fail
                clear hf10 hc10
                refine pieceEnd_normal ⟨trivial, ?_⟩
                refine flow_done (by kernel_rfl) ?_
                replace HSW := Lib.hid (HSW.out.set 10 (.string (s.body ++ strOf (List.replicate N 0))))
                have HN := Lib.hid hN; clear hN
                go_wp2_with fail
                go_meet
                have hs := HSM2.out
                exact Lib.hid (HSW.out.stop { s with body := s.body ++ strOf (List.replicate N 0) } rfl rfl ⟨hs.prev, hs.list, hs.pins, hs.all, by have h1 := HQ2.out.2.2.2.1; have h2 := HN.out; show (s.body ++ strOf (List.replicate N 0)).size ≤ 100000; rw [ByteArray.size_append, strOf_size, List.length_replicate]; omega, hs.dig⟩ (fun A3 n3 c3 B3 m3 k3 e1 e2 => by cases e1; cases e2; rfl))
            · go_wp2_with fail
              refine (of_g w.heap.size D t (some ⟨x0.heap.size, 0, none⟩) 3 3 [1, 4096, 4097] x1 HSW.out.dice HR.out (fun ad e => by injection e with e; subst e; show x0.heap.size ≠ D; omega) (by omega) (by omega)).mono ?_
              clear hlow HR
              rintro e x2 ⟨q, rfl, hin, hg⟩
              replace HSW := Lib.hid (HSW.out.gave hg); clear hg
              have hq : 0 ≤ q ∧ q ≤ 4097 := by simp at hin; omega
              clear hin
              obtain ⟨N, rfl⟩ : ∃ N : Nat, q = N := ⟨q.toNat, by omega⟩
              have hN : N ≤ 4097 := by omega
              clear hq
              go_wp2_with fail
              refine pieceEnd_normal ⟨trivial, ?_⟩
              refine flow_two (fun _ _ _ _ _ => trivial) (fun _ => trivial) 1 5 (by kernel_rfl) (by decide) (by decide) ?_ ?_ <;> simp only [pick, List.getD_cons_zero, List.getD_cons_succ]
              ·
                  have hc10 : x2.cell? ⟨S9, 10, none⟩ = some (.string s.body) := (cell_of_row _ _ _ _ _ _ HSW.out.cur).trans rfl
                  go_wp2_with fail
                  clear hc10
                  refine pieceEnd_normal ⟨trivial, ?_⟩
                  refine flow_one (fun _ _ _ _ _ => trivial) (fun _ => trivial) 5 (by kernel_rfl) (by decide) ?_
                  simp only [pick, List.getD_cons_zero, List.getD_cons_succ]
                  go_wp2_with (at_make; go_must (refine wpList_make _ rfl (.tmp 162) (.tmp 162) 28 5 rfl x2.heap.size Tryd.underlying28 u8_info rfl N N rfl rfl rfl rfl (Nat.le_refl _) (by omega) (by unfold maxLen; omega) (Nat.le_refl _) ?_); intro x3 ho hb; obtain ⟨A3, c3, hv3, hr3⟩ := Row.of_own ho; cases hv3; replace HSW := Lib.hid (HSW.out.later hb); clear ho hb; have HV := Lib.hid hr3; clear hr3)
                  have hbr : BRow x3 (some ⟨x2.heap.size, 0, none⟩) N N (List.replicate N 0) := by unfold BRow; rw [show bytesV (List.replicate N (0 : UInt8)) = List.replicate N (Value.int .u8 0) by unfold bytesV; rw [List.map_replicate]; rfl]; exact HV.out
                  have hcv := conv_at hbr (Below.refl _ _) rfl
                  clear hbr HV
                  refine flow_one (fun _ _ _ _ _ => trivial) (fun _ => trivial) 6 (by kernel_rfl) (by decide) ?_
                  simp only [pick, List.getD_cons_zero, List.getD_cons_succ]
                  go_wp2_with fail
                  clear hcv
                  refine pieceEnd_normal ⟨trivial, ?_⟩
                  refine flow_one (fun _ _ _ _ _ => trivial) (fun _ => trivial) 7 (by kernel_rfl) (by decide) ?_
                  simp only [pick, List.getD_cons_zero, List.getD_cons_succ]
                  have hs5 : s.body.size ≤ 5 := HQ2.out.2.2.2.1
                  have hs6 : (strOf (List.replicate N 0)).size ≤ 4097 := by rw [strOf_size, List.length_replicate]; omega
                  go_wp2_with fail
                  clear hs5 hs6
                  refine pieceEnd_normal ⟨trivial, ?_⟩
                  refine flow_one (fun _ _ _ _ _ => trivial) (fun _ => trivial) 8 (by kernel_rfl) (by decide) ?_
                  simp only [pick, List.getD_cons_zero, List.getD_cons_succ]
                  go_wp2_with fail
                  refine pieceEnd_normal ⟨trivial, ?_⟩
                  refine flow_one (fun _ _ _ _ _ => trivial) (fun _ => trivial) 9 (by kernel_rfl) (by decide) ?_
                  simp only [pick, List.getD_cons_zero, List.getD_cons_succ]
                  have hf10 : x3.frozen? ⟨S9, 10, none⟩ = false := frozen_of_row _ _ _ _ _ HSW.out.cur
                  have hc10 : x3.cell? ⟨S9, 10, none⟩ = some (.string s.body) := (cell_of_row _ _ _ _ _ _ HSW.out.cur).trans rfl
                  go_wp2_with fail
                  clear hf10 hc10
                  refine pieceEnd_normal ⟨trivial, ?_⟩
                  refine flow_done (by kernel_rfl) ?_
                  replace HSW := Lib.hid (HSW.out.set 10 (.string (s.body ++ strOf (List.replicate N 0))))
                  have HN := Lib.hid hN; clear hN
                  go_wp2_with fail
                  go_meet
                  have hs := HSM2.out
                  exact Lib.hid (HSW.out.stop { s with body := s.body ++ strOf (List.replicate N 0) } rfl rfl ⟨hs.prev, hs.list, hs.pins, hs.all, by have h1 := HQ2.out.2.2.2.1; have h2 := HN.out; show (s.body ++ strOf (List.replicate N 0)).size ≤ 100000; rw [ByteArray.size_append, strOf_size, List.length_replicate]; omega, hs.dig⟩ (fun A3 n3 c3 B3 m3 k3 e1 e2 => by cases e1; cases e2; rfl))
              · go_wp2_with (at_make; go_must (refine wpList_make _ rfl (.tmp 162) (.tmp 162) 28 5 rfl x2.heap.size Tryd.underlying28 u8_info rfl N N rfl rfl rfl rfl (Nat.le_refl _) (by omega) (by unfold maxLen; omega) (Nat.le_refl _) ?_); intro x3 ho hb; obtain ⟨A3, c3, hv3, hr3⟩ := Row.of_own ho; cases hv3; replace HSW := Lib.hid (HSW.out.later hb); clear ho hb; have HV := Lib.hid hr3; clear hr3)
                have hbr : BRow x3 (some ⟨x2.heap.size, 0, none⟩) N N (List.replicate N 0) := by unfold BRow; rw [show bytesV (List.replicate N (0 : UInt8)) = List.replicate N (Value.int .u8 0) by unfold bytesV; rw [List.map_replicate]; rfl]; exact HV.out
                have hcv := conv_at hbr (Below.refl _ _) rfl
                clear hbr HV
                refine flow_two (fun _ _ _ _ _ => trivial) (fun _ => trivial) 1 6 (by kernel_rfl) (by decide) (by decide) ?_ ?_ <;> simp only [pick, List.getD_cons_zero, List.getD_cons_succ]
                ·
                    have hc10 : x3.cell? ⟨S9, 10, none⟩ = some (.string s.body) := (cell_of_row _ _ _ _ _ _ HSW.out.cur).trans rfl
                    go_wp2_with fail
                    clear hc10
                    refine pieceEnd_normal ⟨trivial, ?_⟩
                    refine flow_one (fun _ _ _ _ _ => trivial) (fun _ => trivial) 6 (by kernel_rfl) (by decide) ?_
                    simp only [pick, List.getD_cons_zero, List.getD_cons_succ]
                    go_wp2_with fail
                    clear hcv
                    refine pieceEnd_normal ⟨trivial, ?_⟩
                    refine flow_one (fun _ _ _ _ _ => trivial) (fun _ => trivial) 7 (by kernel_rfl) (by decide) ?_
                    simp only [pick, List.getD_cons_zero, List.getD_cons_succ]
                    have hs5 : s.body.size ≤ 5 := HQ2.out.2.2.2.1
                    have hs6 : (strOf (List.replicate N 0)).size ≤ 4097 := by rw [strOf_size, List.length_replicate]; omega
                    go_wp2_with fail
                    clear hs5 hs6
                    refine pieceEnd_normal ⟨trivial, ?_⟩
                    refine flow_one (fun _ _ _ _ _ => trivial) (fun _ => trivial) 8 (by kernel_rfl) (by decide) ?_
                    simp only [pick, List.getD_cons_zero, List.getD_cons_succ]
                    go_wp2_with fail
                    refine pieceEnd_normal ⟨trivial, ?_⟩
                    refine flow_one (fun _ _ _ _ _ => trivial) (fun _ => trivial) 9 (by kernel_rfl) (by decide) ?_
                    simp only [pick, List.getD_cons_zero, List.getD_cons_succ]
                    have hf10 : x3.frozen? ⟨S9, 10, none⟩ = false := frozen_of_row _ _ _ _ _ HSW.out.cur
                    have hc10 : x3.cell? ⟨S9, 10, none⟩ = some (.string s.body) := (cell_of_row _ _ _ _ _ _ HSW.out.cur).trans rfl
                    go_wp2_with fail
                    clear hf10 hc10
                    refine pieceEnd_normal ⟨trivial, ?_⟩
                    refine flow_done (by kernel_rfl) ?_
                    replace HSW := Lib.hid (HSW.out.set 10 (.string (s.body ++ strOf (List.replicate N 0))))
                    have HN := Lib.hid hN; clear hN
                    go_wp2_with fail
                    go_meet
                    have hs := HSM2.out
                    exact Lib.hid (HSW.out.stop { s with body := s.body ++ strOf (List.replicate N 0) } rfl rfl ⟨hs.prev, hs.list, hs.pins, hs.all, by have h1 := HQ2.out.2.2.2.1; have h2 := HN.out; show (s.body ++ strOf (List.replicate N 0)).size ≤ 100000; rw [ByteArray.size_append, strOf_size, List.length_replicate]; omega, hs.dig⟩ (fun A3 n3 c3 B3 m3 k3 e1 e2 => by cases e1; cases e2; rfl))
                · go_wp2_with fail
                  clear hcv
                  refine pieceEnd_normal ⟨trivial, ?_⟩
                  refine flow_one (fun _ _ _ _ _ => trivial) (fun _ => trivial) 1 (by kernel_rfl) (by decide) ?_
                  simp only [pick, List.getD_cons_zero, List.getD_cons_succ]
                  have hc10 : x3.cell? ⟨S9, 10, none⟩ = some (.string s.body) := (cell_of_row _ _ _ _ _ _ HSW.out.cur).trans rfl
                  go_wp2_with fail
                  clear hc10
                  refine pieceEnd_normal ⟨trivial, ?_⟩
                  refine flow_one (fun _ _ _ _ _ => trivial) (fun _ => trivial) 7 (by kernel_rfl) (by decide) ?_
                  simp only [pick, List.getD_cons_zero, List.getD_cons_succ]
                  have hs5 : s.body.size ≤ 5 := HQ2.out.2.2.2.1
                  have hs6 : (strOf (List.replicate N 0)).size ≤ 4097 := by rw [strOf_size, List.length_replicate]; omega
                  go_wp2_with fail
                  clear hs5 hs6
                  refine pieceEnd_normal ⟨trivial, ?_⟩
                  refine flow_one (fun _ _ _ _ _ => trivial) (fun _ => trivial) 8 (by kernel_rfl) (by decide) ?_
                  simp only [pick, List.getD_cons_zero, List.getD_cons_succ]
                  go_wp2_with fail
                  refine pieceEnd_normal ⟨trivial, ?_⟩
                  refine flow_one (fun _ _ _ _ _ => trivial) (fun _ => trivial) 9 (by kernel_rfl) (by decide) ?_
                  simp only [pick, List.getD_cons_zero, List.getD_cons_succ]
                  have hf10 : x3.frozen? ⟨S9, 10, none⟩ = false := frozen_of_row _ _ _ _ _ HSW.out.cur
                  have hc10 : x3.cell? ⟨S9, 10, none⟩ = some (.string s.body) := (cell_of_row _ _ _ _ _ _ HSW.out.cur).trans rfl
                  go_wp2_with fail
                  clear hf10 hc10
                  refine pieceEnd_normal ⟨trivial, ?_⟩
                  refine flow_done (by kernel_rfl) ?_
                  replace HSW := Lib.hid (HSW.out.set 10 (.string (s.body ++ strOf (List.replicate N 0))))
                  have HN := Lib.hid hN; clear hN
                  go_wp2_with fail
                  go_meet
                  have hs := HSM2.out
                  exact Lib.hid (HSW.out.stop { s with body := s.body ++ strOf (List.replicate N 0) } rfl rfl ⟨hs.prev, hs.list, hs.pins, hs.all, by have h1 := HQ2.out.2.2.2.1; have h2 := HN.out; show (s.body ++ strOf (List.replicate N 0)).size ≤ 100000; rw [ByteArray.size_append, strOf_size, List.length_replicate]; omega, hs.dig⟩ (fun A3 n3 c3 B3 m3 k3 e1 e2 => by cases e1; cases e2; rfl))
      · go_wp2_with fail
        refine wp_region_flow (by kernel_rfl) (fun a b => b.heap[S8]? = a.heap[S8]?) ?_
        replace HSW := Lib.hid (HSW.out.later (Later.drew w7))
        generalize w7.drew = x0 at HSW ⊢
        obtain ⟨hf0, hf1, hf2, hf3, hf4, hf5, hf6, hf7, hf8, hf9, hf10, hf11, hf12⟩ := stm_futs (F := (fun a b => b.heap[S8]? = a.heap[S8]?)) (fun _ => rfl) (A := A) (n := n) (c := c) (B := B) (m := m) (k := k) (s := s) (W := x0) (fun w' h => h) HSW.out.sc
        refine flow_reads (F := (fun a b => b.heap[S8]? = a.heap[S8]?)) (fun _ => rfl) (by kernel_rfl) [0, 2, 3, 4, 5] (fuel := 6) (by kernel_rfl) ?_
        simp only [List.map_cons, List.map_nil, pick, List.getD_cons_zero, List.getD_cons_succ]
        repeat (go_big_quiet_step (fail))
        refine wpQuiet_nil ?_
        clear hf0 hf1 hf2 hf3 hf4 hf5 hf6 hf7 hf8 hf9 hf10 hf11 hf12
        refine flow_one (F := (fun a b => b.heap[S8]? = a.heap[S8]?)) (fun _ _ _ h k => k.trans h) (fun _ => rfl) 1 (by kernel_rfl) (by decide) ?_
        simp only [pick, List.getD_cons_zero, List.getD_cons_succ]
        go_wp2_with fail
        refine (mod_any v0 5 x0 (by omega) (by omega)).mono ?_
        rintro e x1 ⟨rfl, rfl⟩
        generalize modF v0 5 = q
        go_wp2_with fail
        refine pieceEnd_normal ⟨rfl, ?_⟩
        refine flow_one (F := (fun a b => b.heap[S8]? = a.heap[S8]?)) (fun _ _ _ h k => k.trans h) (fun _ => rfl) 6 (by kernel_rfl) (by decide) ?_
        simp only [pick, List.getD_cons_zero, List.getD_cons_succ]
        go_wp2_with fail
        refine (next_g w.heap.size D t 2 _ HSW.out.dice (by omega) (by omega)).mono ?_
        rintro e x2 ⟨x, rfl, hx0, hx1, hg⟩
        have HK : Hid (x2.heap[S8]? = x0.heap[S8]?) := Lib.hid (hg.2.block S8 (by have h1 := HSW.out.o3; have h2 := HSW.out.lt; omega) (by have h1 := HSW.out.o2; omega))
        replace HSW := Lib.hid (HSW.out.gave hg); clear hg
        go_wp2_with fail
        refine pieceEnd_normal ⟨HK.out, ?_⟩
        clear HK
        refine flow_one (F := (fun a b => b.heap[S8]? = a.heap[S8]?)) (fun _ _ _ h k => k.trans h) (fun _ => rfl) 7 (by kernel_rfl) (by decide) ?_
        simp only [pick, List.getD_cons_zero, List.getD_cons_succ]
        have hxd : x ≤ (s.dig.size : Int) := by have h := HQ2.out.2.2.2.2.2; omega
        go_wp2_with fail
        clear hxd
        refine pieceEnd_normal ⟨rfl, ?_⟩
        refine flow_one (F := (fun a b => b.heap[S8]? = a.heap[S8]?)) (fun _ _ _ h k => k.trans h) (fun _ => rfl) 8 (by kernel_rfl) (by decide) ?_
        simp only [pick, List.getD_cons_zero, List.getD_cons_succ]
        go_wp2_with fail
        refine pieceEnd_normal ⟨rfl, ?_⟩
        refine flow_one (F := (fun a b => b.heap[S8]? = a.heap[S8]?)) (fun _ _ _ h k => k.trans h) (fun _ => rfl) 9 (by kernel_rfl) (by decide) ?_
        simp only [pick, List.getD_cons_zero, List.getD_cons_succ]
        go_wp2_with fail
        refine pieceEnd_normal ⟨rfl, ?_⟩
        refine flow_one (F := (fun a b => b.heap[S8]? = a.heap[S8]?)) (fun _ _ _ h k => k.trans h) (fun _ => rfl) 10 (by kernel_rfl) (by decide) ?_
        simp only [pick, List.getD_cons_zero, List.getD_cons_succ]
        have hf11 : x2.frozen? ⟨S9, 11, none⟩ = false := frozen_of_row _ _ _ _ _ HSW.out.cur
        have hf12 : x2.frozen? ⟨S9, 12, none⟩ = false := frozen_of_row _ _ _ _ _ HSW.out.cur
        have hc11 : x2.cell? ⟨S9, 11, none⟩ = some (.int .i64 s.key) := (cell_of_row _ _ _ _ _ _ HSW.out.cur).trans rfl
        have hc12 : x2.cell? ⟨S9, 12, none⟩ = some (.string s.dig) := (cell_of_row _ _ _ _ _ _ HSW.out.cur).trans rfl
        go_wp2_with fail
        clear hf11 hf12 hc11 hc12
        have hne : S8 ≠ S9 := Nat.ne_of_lt HSW.out.o3
        refine pieceEnd_normal ⟨(Below.heap_setCell _ _ _ _ hne).trans (Below.heap_setCell _ _ _ _ hne), ?_⟩
        clear hne
        refine flow_done (by kernel_rfl) ?_
        replace HSW := Lib.hid ((HSW.out.set 11 (.int .i64 q)).set 12 (.string (s.dig.extract x.toNat s.dig.size)))
        go_wp2_with fail
        go_meet
        have hs := HSM2.out
        exact Lib.hid (HSW.out.stop { s with key := q, dig := (s.dig.extract x.toNat s.dig.size) } rfl rfl ⟨hs.prev, hs.list, hs.pins, hs.all, hs.body, by have h := HQ2.out.2.2.2.2.2; show (s.dig.extract x.toNat s.dig.size).size ≤ 100000; rw [ByteArray.size_extract]; omega⟩ (fun A3 n3 c3 B3 m3 k3 e1 e2 => by cases e1; cases e2; rfl))
    case rest =>
      as_aux_lemma =>
        obtain ⟨o, A4, n4, c4, B4, m4, k4, hb, h8, h9, hs8, hil, hpl, hs9, hil2, hpl2, hso⟩ := hcut.out
        have HBW := Lib.hid hb
        have HSR : Hid (IRow wc A n c s.list ∧ PRow wc B m k s.pins) := Lib.hid ⟨hil, hpl⟩
        have HOR : Hid (IRow wc A4 n4 c4 o.list ∧ PRow wc B4 m4 k4 o.pins) := Lib.hid ⟨hil2, hpl2⟩
        have HSO := Lib.hid hso
        have HTL : Hid (Tl wc S8 S9 #[.int .i64 s.author, .int .i64 s.number, .string s.prev, .int .i64 s.time, .int .i64 s.kind, .int .i64 s.a, .int .i64 s.b, .int .i64 s.c, (.slice A n c), (.slice B m k), .string s.body, .int .i64 s.key, .string s.dig] #[.int .i64 o.author, .int .i64 o.number, .string o.prev, .int .i64 o.time, .int .i64 o.kind, .int .i64 o.a, .int .i64 o.b, .int .i64 o.c, (.slice A4 n4 c4), (.slice B4 m4 k4), .string o.body, .int .i64 o.key, .string o.dig] wc) := Lib.hid ⟨Below.refl _ _, hs8, hs9, h8, h9⟩
        have HLB : Hid ((encB s).length ≤ 1000) := Lib.hid (encB_len HQ2.out.1 HQ2.out.2.2.1 HQ2.out.2.2.2.1 HQ2.out.2.2.2.2.1 HQ2.out.2.2.2.2.2)
        have HRD : Hid (∀ x, Below wc.heap.size wc x → Rounds x) := Lib.hid fun x h => HRR.out x (HBW.out.trans (h.mono HBW.out.size))
        have HAW2 : Hid (∀ x, Below wc.heap.size wc x → Calls Tryd.prog 7 #[] x (SaysL (.bool true) x)) := Lib.hid fun x h => awake_any x (HRD.out x h)
        have HFIN : Hid (∀ x, Below wc.heap.size wc x → Below w.heap.size w x) := Lib.hid fun x h => HBW.out.trans (h.mono HBW.out.size)
        have HENC := Lib.hid (refEncode_own s A n c B m k wc HSR.out.1 HSR.out.2 HSM2.out)
        clear hcut hb h8 h9 hs8 hil hpl hs9 hil2 hpl2 hso HSW HAW HRR HBW hK0 hK1
        unfold EncO at HENC
        generalize encB s = us at HENC HLB
        generalize encE s = ee at HENC
        have HA1 : Hid (∀ x, Below wc.heap.size wc x → Calls Tryd.prog 8 #[stmV s A n c B m k, stmV o A4 n4 c4 B4 m4 k4] x (SaysL (.bool true) x)) := Lib.hid fun x h => agree_any s A n c B m k o A4 n4 c4 B4 m4 k4 x (HSR.out.1.later h) (HSR.out.2.later h) (HOR.out.1.later h) (HOR.out.2.later h) HSM2.out (HRD.out x h)
        have HA2 : Hid (∀ x, Below wc.heap.size wc x → Calls Tryd.prog 8 #[stmV o A4 n4 c4 B4 m4 k4, stmV s A n c B m k] x (SaysL (.bool true) x)) := Lib.hid fun x h => agree_any o A4 n4 c4 B4 m4 k4 s A n c B m k x (HOR.out.1.later h) (HOR.out.2.later h) (HSR.out.1.later h) (HSR.out.2.later h) HSO.out (HRD.out x h)
        have HSE : Hid (∀ x, Below wc.heap.size wc x → Calls Tryd.prog 9 #[stmV o A4 n4 c4 B4 m4 k4] x (GivesS x (sealOf o))) := Lib.hid fun x h => refSeal_any o A4 n4 c4 B4 m4 k4 x (HOR.out.1.later h) (HOR.out.2.later h) HSO.out
        have HA3 : Hid (∀ x, Below wc.heap.size wc x → ∀ A5 n5 c5 B5 m5 k5, IRow x A5 n5 c5 (sealOf o).list → PRow x B5 m5 k5 (sealOf o).pins → Calls Tryd.prog 8 #[stmV (sealOf o) A5 n5 c5 B5 m5 k5, stmV s A n c B m k] x (SaysL (.bool true) x)) :=
          Lib.hid fun x h A5 n5 c5 B5 m5 k5 h1 h2 => agree_any (sealOf o) A5 n5 c5 B5 m5 k5 s A n c B m k x h1 h2 (HSR.out.1.later h) (HSR.out.2.later h) (seal_small HSO.out) (HRD.out x h)
        clear HSR HOR HSO HSM2 HQ2
        generalize sealOf o = o' at HSE HA3
        unfold stmV at HENC HA1 HA2 HA3 HSE
        obtain ⟨hc0, hc1, hc2, hc3, hc4, hc5, hc6, hc7, hc8, hc9, hc10, hc11, hc12⟩ := stm_cells (A := A) (n := n) (c := c) (B := B) (m := m) (k := k) (s := s) HTL.out.x8
        go_wp2_with fail
        clear hc0 hc1 hc2 hc3 hc4 hc5 hc6 hc7 hc8 hc9 hc10 hc11 hc12
        refine HENC.out.mono ?_
        clear HENC
        rintro e wq ⟨A3, m3, c3, rfl, ho, hb⟩
        obtain ⟨hm, hr3⟩ := own_bytes_row ho
        have HM := Lib.hid hm; have HO3 := Lib.hid ho; replace HTL := Lib.hid (HTL.out.below hb); have HR3 := Lib.hid hr3
        have hm3 : m3 ≤ 1000 := by have h := HLB.out; have h2 := HM.out; exact (by rw [← h2]; exact h)
        have HZQ : Hid (wc.heap.size ≤ wq.heap.size) := Lib.hid hb.size
        have HAQ : Hid (∀ g, (Value.slice A3 m3 c3).ownBlock = some g → g < wq.heap.size) := Lib.hid fun g hg => (World.ownsRow.lt ho g hg).2
        clear hm ho hb HLB hr3
        go_upto_if 174 with fail
        go_cut [] (fun wx => Hid (Tl wc S8 S9 #[.int .i64 s.author, .int .i64 s.number, .string s.prev, .int .i64 s.time, .int .i64 s.kind, .int .i64 s.a, .int .i64 s.b, .int .i64 s.c, (.slice A n c), (.slice B m k), .string s.body, .int .i64 s.key, .string s.dig] #[.int .i64 o.author, .int .i64 o.number, .string o.prev, .int .i64 o.time, .int .i64 o.kind, .int .i64 o.a, .int .i64 o.b, .int .i64 o.c, (.slice A4 n4 c4), (.slice B4 m4 k4), .string o.body, .int .i64 o.key, .string o.dig] wx ∧ BRow wx A3 m3 c3 us))
        case first =>
          by_cases h0 : 0 < m3
          · go_wp2_with (at_builtin; go_must (refine wpList_app wq rfl (.const (.slice none 0 0)) (.tmp 175) 28 28 5 rfl wq.heap.size Tryd.underlying28 u8_info rfl _ 0 [] (World.ownsRow_nil wq _ _ _) rfl (.slice A3 m3 c3) m3 (bytesV us) (Row.src HR3.out Tryd.underlying28 (bytesV_one _)) rfl (by unfold maxLen; omega) (by omega) (Nat.le_refl _) ?_); intro v9 w9 ho9 hb9; rw [Nat.zero_add, List.nil_append] at ho9; obtain ⟨g5, c5, hv5⟩ := own_some ho9 h0; subst hv5; have HO9 := Lib.hid ho9; have HB9 := Lib.hid hb9; clear ho9 hb9)
            replace HTL := Lib.hid (HTL.out.later HB9.out); replace HO3 := Lib.hid (own_later HO3.out HB9.out); clear HB9 HR3
            refine (mod_any i0 m3 w9 (by omega) (by omega)).mono ?_
            rintro e x9 ⟨rfl, rfl⟩
            have hmd := modF_bd i0 m3 (by omega)
            generalize modF i0 m3 = q at hmd ⊢
            obtain ⟨ix, rfl⟩ : ∃ ix : Nat, q = ix := ⟨q.toNat, by omega⟩
            have hix : ix < m3 := by omega
            clear hmd
            obtain ⟨ub, hub⟩ := bytes_at us ix (by have h := HM.out; omega)
            have hc : w9.cell? ⟨g5, ix, none⟩ = some (.int .u8 (w8 ub)) := (World.ownsRow.cellAt HO9.out ix (by omega)).trans hub
            have hz : w9.frozen? ⟨g5, ix, none⟩ = false := World.ownsRow.frozenAt HO9.out ix
            clear hub
            go_wp2_with fail
            clear hc hz
            obtain ⟨nb, hnb⟩ := xor_byte (w8 ub) (v0 % 256)
            rw [hnb]
            have HOA := Lib.hid (World.ownsRow.stored HO9.out ix (bv nb)).1
            have hg5 := (World.ownsRow.lt HO9.out g5 rfl).1
            have hbs : Below wq.heap.size w9 (w9.setCell ⟨g5, ix, none⟩ (bv nb)) := Below.setCell (p := ⟨g5, ix, none⟩) (Below.refl _ _) hg5 _
            replace HTL := Lib.hid (HTL.out.below (hbs.mono HZQ.out)); replace HO3 := Lib.hid (own_keep HO3.out fun g hg => hbs.block g (HAQ.out g hg))
            rw [bytes_set] at HOA
            have HRA : Hid (BRow (w9.setCell ⟨g5, ix, none⟩ (bv nb)) (some ⟨g5, 0, none⟩) m3 c5 (us.set ix nb)) := Lib.hid (by obtain ⟨A', c', e, h⟩ := Row.of_own HOA.out; cases e; exact h)
            clear hnb hbs hg5 HO9 HOA
            generalize w9.setCell ⟨g5, ix, none⟩ (bv nb) = xa at HTL HO3 HRA ⊢
            refine (readLaw_any (some ⟨g5, 0, none⟩) m3 c5 (us.set ix nb) xa HRA.out (by omega) (HRD.out xa HTL.out.bel)).mono ?_
            clear HRA hix
            rintro e y1 ⟨rfl, hb⟩
            replace HTL := Lib.hid (HTL.out.later hb); replace HO3 := Lib.hid (own_later HO3.out hb); clear hb
            go_wp2_with fail
            refine (mod_any i0 m3 y1 (by omega) (by omega)).mono ?_
            rintro e y2 ⟨rfl, rfl⟩
            have hmd := modF_bd i0 m3 (by omega)
            generalize modF i0 m3 = q at hmd ⊢
            obtain ⟨iy, rfl⟩ : ∃ iy : Nat, q = iy := ⟨q.toNat, by omega⟩
            have hiy : iy ≤ m3 := by omega
            clear hmd
            have HR3 := Lib.hid (own_bytes_row HO3.out).2
            have hsl : ∀ w', (Instr.slice 28 (.slice A3 m3 c3) none (some (.int .i64 (iy : Int))) none).run Tryd.prog w' = .ok (.slice A3 iy c3) w' := fun w' => run_slice_to Tryd.underlying28 (by kernel_rfl : (Tryd.prog.info? 5).map (·.size) = some 1) HR3.out rfl hiy .i64 w'
            go_wp2_with fail
            clear hsl
            have HRT : Hid (BRow y1 A3 iy c3 (us.take iy)) := Lib.hid (by have h := Row.take HR3.out iy hiy; unfold BRow; rw [Nat.mul_one] at h; rw [show bytesV (us.take iy) = (bytesV us).take iy by simp [bytesV, List.map_take]]; exact h)
            refine (readLaw_any A3 iy c3 (us.take iy) y1 HRT.out (by omega) (HRD.out y1 HTL.out.bel)).mono ?_
            clear HRT HR3 hiy
            rintro e y3 ⟨rfl, hb⟩
            replace HTL := Lib.hid (HTL.out.later hb); replace HO3 := Lib.hid (own_later HO3.out hb); clear hb
            go_wp2_with (at_builtin; go_must (refine wpList_appG2 (y3.alloc (.cells #[.int .u8 (v0 % 256)] 5)) rfl (.tmp 202) (.tmp 205) 28 28 5 rfl wc.heap.size Tryd.underlying28 u8_info rfl _ us.length (bytesV us) (World.ownsRow.alloc HO3.out _) rfl (.slice (some ⟨y3.heap.size, 0, none⟩) 1 1) 1 [.int .u8 (v0 % 256)] (Row.src (Row.of_block (cs := #[.int .u8 (v0 % 256)]) (heap_alloc_new _ _) rfl) Tryd.underlying28 (by simp [Value.oneCell'])) rfl (by have h := HM.out; unfold maxLen; omega) (by have h := HM.out; omega) (Nat.le_trans HTL.out.bel.size (one_new _ _).size) ?_); intro v4 y4 ho hb hrow; obtain ⟨nb2, hnb2⟩ := mod_byte v0; obtain ⟨A7, c7, hv7, hr7⟩ := Row.of_own ho; subst hv7; have HR7 : Hid (BRow y4 A7 (us.length + 1) c7 (us ++ [nb2])) := Lib.hid (by unfold BRow; rw [bytesV_app, show bytesV [nb2] = [bv nb2] from rfl, ← hnb2]; exact hr7); have HR3 : Hid (BRow y4 A3 m3 c3 us) := Lib.hid (by have h := hrow A3 c3 (by rw [HM.out]); rw [HM.out] at h; exact h); replace HTL := Lib.hid ((HTL.out.later (one_new y3 (.cells #[.int .u8 (v0 % 256)] 5))).below hb); clear ho hb hrow hr7 hnb2 HO3)
            refine (readLaw_any A7 (us.length + 1) c7 (us ++ [nb2]) y4 HR7.out (by have h := HM.out; omega) (HRD.out y4 HTL.out.bel)).mono ?_
            clear HR7
            rintro e y5 ⟨rfl, hb⟩
            replace HTL := Lib.hid (HTL.out.later hb); replace HR3 := Lib.hid (HR3.out.later hb); clear hb
            go_wp2_with fail
            go_meet
            exact Lib.hid ⟨HTL.out, HR3.out⟩
          · go_wp2_with fail
            go_meet
            exact Lib.hid ⟨HTL.out, HR3.out⟩
        case rest =>
          replace HTL := Lib.hid hcut.out.1; replace HR3 := Lib.hid hcut.out.2; clear hcut
          go_wp2_with fail
          refine wp_region_grow (by kernel_rfl) Later Later.refl (fun _ _ _ => Later.trans) [20, 21] [([], 0), ([1, 2, 3], 4), ([5, 6, 7, 8], 9), ([10, 11, 12, 14], 13), ([], 15), ([16, 17, 18], 19)] (by kernel_rfl) (by kernel_rfl) (by kernel_rfl) ?_
          simp only [List.map_cons, List.map_nil, pick, List.getD_cons_zero, List.getD_cons_succ]
          replace HTL := Lib.hid (HTL.out.later (Later.drew wc)); replace HR3 := Lib.hid (HR3.out.later (Later.drew wc))
          generalize wc.drew = p0 at HTL HR3 ⊢
          refine wpGrow_cons ?_
          repeat (go_big_quiet_step (fail))
          refine wpQuiet_nil ?_
          go_wp2_with fail
          refine (HAW2.out _ HTL.out.bel).mono ?_
          rintro e p1 ⟨rfl, hb⟩
          have HF : Hid (Later p0 p1) := Lib.hid hb; replace HTL := Lib.hid (HTL.out.later hb); replace HR3 := Lib.hid (HR3.out.later hb); clear hb
          go_wp2_with fail
          refine pieceEnd_normal ⟨HF.out, ?_⟩
          clear HF
          refine wpGrow_cons ?_
          obtain ⟨hf0, hf1, hf2, hf3, hf4, hf5, hf6, hf7, hf8, hf9, hf10, hf11, hf12⟩ := stm_futs (F := Later) Later.refl (A := A) (n := n) (c := c) (B := B) (m := m) (k := k) (s := s) (W := p1) (fun w' h => HTL.out.keep8 h) HTL.out.x8
          obtain ⟨hg0, hg1, hg2, hg3, hg4, hg5, hg6, hg7, hg8, hg9, hg10, hg11, hg12⟩ := stm_futs (F := Later) Later.refl (A := A4) (n := n4) (c := c4) (B := B4) (m := m4) (k := k4) (s := o) (W := p1) (fun w' h => HTL.out.keep9 h) HTL.out.x9
          repeat (go_big_quiet_step (fail))
          refine wpQuiet_nil ?_
          clear hf0 hf1 hf2 hf3 hf4 hf5 hf6 hf7 hf8 hf9 hf10 hf11 hf12 hg0 hg1 hg2 hg3 hg4 hg5 hg6 hg7 hg8 hg9 hg10 hg11 hg12
          go_wp2_with fail
          refine (HA1.out _ HTL.out.bel).mono ?_
          rintro e p2 ⟨rfl, hb⟩
          have HF : Hid (Later p1 p2) := Lib.hid hb; replace HTL := Lib.hid (HTL.out.later hb); replace HR3 := Lib.hid (HR3.out.later hb); clear hb
          go_wp2_with fail
          refine pieceEnd_normal ⟨HF.out, ?_⟩
          clear HF
          refine wpGrow_cons ?_
          obtain ⟨hf0, hf1, hf2, hf3, hf4, hf5, hf6, hf7, hf8, hf9, hf10, hf11, hf12⟩ := stm_futs (F := Later) Later.refl (A := A) (n := n) (c := c) (B := B) (m := m) (k := k) (s := s) (W := p2) (fun w' h => HTL.out.keep8 h) HTL.out.x8
          obtain ⟨hg0, hg1, hg2, hg3, hg4, hg5, hg6, hg7, hg8, hg9, hg10, hg11, hg12⟩ := stm_futs (F := Later) Later.refl (A := A4) (n := n4) (c := c4) (B := B4) (m := m4) (k := k4) (s := o) (W := p2) (fun w' h => HTL.out.keep9 h) HTL.out.x9
          repeat (go_big_quiet_step (fail))
          refine wpQuiet_nil ?_
          clear hf0 hf1 hf2 hf3 hf4 hf5 hf6 hf7 hf8 hf9 hf10 hf11 hf12 hg0 hg1 hg2 hg3 hg4 hg5 hg6 hg7 hg8 hg9 hg10 hg11 hg12
          go_wp2_with fail
          refine (HA2.out _ HTL.out.bel).mono ?_
          rintro e p3 ⟨rfl, hb⟩
          have HF : Hid (Later p2 p3) := Lib.hid hb; replace HTL := Lib.hid (HTL.out.later hb); replace HR3 := Lib.hid (HR3.out.later hb); clear hb
          go_wp2_with fail
          refine pieceEnd_normal ⟨HF.out, ?_⟩
          clear HF
          refine wpGrow_cons ?_
          obtain ⟨hf0, hf1, hf2, hf3, hf4, hf5, hf6, hf7, hf8, hf9, hf10, hf11, hf12⟩ := stm_futs (F := Later) Later.refl (A := A) (n := n) (c := c) (B := B) (m := m) (k := k) (s := s) (W := p3) (fun w' h => HTL.out.keep8 h) HTL.out.x8
          obtain ⟨hg0, hg1, hg2, hg3, hg4, hg5, hg6, hg7, hg8, hg9, hg10, hg11, hg12⟩ := stm_futs (F := Later) Later.refl (A := A4) (n := n4) (c := c4) (B := B4) (m := m4) (k := k4) (s := o) (W := p3) (fun w' h => HTL.out.keep9 h) HTL.out.x9
          repeat (go_big_quiet_step (fail))
          refine wpQuiet_nil ?_
          clear hf0 hf1 hf2 hf3 hf4 hf5 hf6 hf7 hf8 hf9 hf10 hf11 hf12 hg0 hg1 hg2 hg3 hg4 hg5 hg6 hg7 hg8 hg9 hg10 hg11 hg12
          go_wp2_with fail
          refine (HSE.out _ HTL.out.bel).mono ?_
          rintro e p4 ⟨Ae, ne, ce, Be, me, ke, rfl, hle, hpe, -, -, hb⟩
          have HLe := Lib.hid hle; have HPe := Lib.hid hpe; clear hle hpe
          have HF : Hid (Later p3 p4) := Lib.hid hb; replace HTL := Lib.hid (HTL.out.later hb); replace HR3 := Lib.hid (HR3.out.later hb); clear hb
          go_wp2_with fail
          refine pieceEnd_normal ⟨HF.out, ?_⟩
          clear HF
          refine wpGrow_cons ?_
          repeat (go_big_quiet_step (fail))
          refine wpQuiet_nil ?_
          go_wp2_with fail
          refine (HA3.out _ HTL.out.bel _ _ _ _ _ _ HLe.out HPe.out).mono ?_
          rintro e p5 ⟨rfl, hb⟩
          have HF : Hid (Later p4 p5) := Lib.hid hb; replace HTL := Lib.hid (HTL.out.later hb); replace HR3 := Lib.hid (HR3.out.later hb); clear hb
          clear HLe HPe
          go_wp2_with fail
          refine pieceEnd_normal ⟨HF.out, ?_⟩
          clear HF
          refine wpGrow_cons ?_
          repeat (go_big_quiet_step (fail))
          refine wpQuiet_nil ?_
          go_wp2_with fail
          refine (readLaw_any A3 m3 c3 us p5 HR3.out (by omega) (HRD.out p5 HTL.out.bel)).mono ?_
          rintro e p6 ⟨rfl, hb⟩
          have HF : Hid (Later p5 p6) := Lib.hid hb; replace HTL := Lib.hid (HTL.out.later hb); replace HR3 := Lib.hid (HR3.out.later hb); clear hb
          go_wp2_with fail
          refine pieceEnd_normal ⟨HF.out, ?_⟩
          clear HF
          refine wpGrow_nil ?_
          repeat (go_big_quiet_step (fail))
          refine wpQuiet_nil ?_
          go_wp2
          go_ret
          exact ⟨rfl, HFIN.out _ HTL.out.bel⟩
  · have g : decide (tn ≤ 400) = false := decide_eq_false hn
    go_wp2_with fail
    refine (HAW.out w (Below.refl _ _)).mono ?_
    rintro e w1 ⟨rfl, hb⟩
    go_wp2
    go_ret
    exact ⟨rfl, hb⟩
end Go.Proofs.YtnokhjpileamaaaDoor
/-
  PROVED: for every t, at and v the law StatementMade returns true and leaves its arguments as they were. Conditions: the row's own (the table digest.rounds holds what the program's text lays; it is tied to that text by the card).
-/
namespace Go.Proofs.YtnokhjpileamaaaDoor.statementMade
open Go.ChangeShapes Go.WideShapes Go.ChangeAt Go.RowKit

theorem own : ownKnob Tryd.prog.godebug = none := by kernel_rfl
theorem laidOut : laidOutB Tryd.prog = true := by kernel_rfl
theorem cellsI : Tryd.prog.cellsOf 3 = 1 := by kernel_rfl
theorem gRounds : Tryd.prog.globalNamed "trustflow/digest.rounds" = some 0 := by kernel_rfl
theorem tRounds : (Tryd.prog.globals[0]?).map (·.type) = some 103 := by kernel_rfl
def kInts : List Int := Sha.K.map w32
theorem datum : (Rows.laid_trustflow_digest_rounds : DataW Unit) = Lib.tabData .u32 kInts := by kernel_rfl
/-- What the row's premise gives the walk: the table of the rounds. -/
theorem rounds_of_laid {W : World} (h : laidMetH Tryd.prog [("trustflow/digest.rounds", Rows.laid_trustflow_digest_rounds)] W) : Rounds W := by
  rw [MakeChecks.laidMetH_plain _ _ _ (by kernel_rfl), datum] at h
  have hT := Lib.tabIs_of_head gRounds tRounds Tryd.underlying103 Tryd.underlying86 (by kernel_rfl) (by kernel_rfl) h
  intro i hi
  have hl : i < kInts.length := by show i < 64; exact hi
  rw [hT.cell gRounds i hl]
  congr 2
  simp only [kInts, Sha.kAt, Sha.at_]
  have h2 : i < Sha.K.length := by show i < 64; exact hi
  simp [h2]
theorem door_met (os : Os) (args : Array Value) : laidMetH Tryd.prog [("trustflow/digest.rounds", Rows.laid_trustflow_digest_rounds)] ((World.doorLaid Tryd.prog 400 os).forCall (fun _ _ => 0) ⟨#[], args, []⟩).memory :=
  laidMetH_of_parts3 (fuel := 8) (laidMet_of_run' 8 (by kernel_rfl) (by kernel_rfl)) (by kernel_rfl) (by kernel_rfl)
set_option maxRecDepth 100000 in
theorem lifted (os : Os) (started : os.Started) (H : Type) (enc : TypeId × Value → H) :
    ReturnsInHanded {} Tryd.checked os 4 .any (fun w args => (Rows.statementMadeSpec.pre enc Tryd.prog Tryd.f4 [] false w args ∧ laidMetH Tryd.prog [("trustflow/digest.rounds", Rows.laid_trustflow_digest_rounds)] w) ∧ sizedMet enc Tryd.prog Tryd.f4 (OpenSpec.ofChange Rows.statementMadeSpec) false w args)
      (Rows.statementMadeSpec.post enc Tryd.prog Tryd.f4 false true false false) := by
  refine returnsInHanded_of_change_and (C := Tryd.checked) (X := fun w _ => laidMetH Tryd.prog [("trustflow/digest.rounds", Rows.laid_trustflow_digest_rounds)] w) (fun _ _ _ hh h => h.of_heap hh) own started (by kernel_rfl) Tryd.func4
    (ChangeSpec.witness_shaped (enc := enc) (C := Tryd.checked) (os := os) (X := fun w _ => laidMetH Tryd.prog [("trustflow/digest.rounds", Rows.laid_trustflow_digest_rounds)] w) false (World.doorLaid Tryd.prog 400 os) #[.slice none 0 0, .int .i64 0, .int .i64 0] 8 rfl (World.shaped_of_RefB (by kernel_rfl) (by kernel_rfl)) (by kernel_rfl) (by kernel_rfl) (by kernel_rfl) (door_met os _)) ?_
  intro W base args ds gs before hval0 hW _ _ hL _
  have hval : ∀ (j : Nat) t v, Tryd.f4.params[j]? = some t → args[j]? = some v → Value.okWide Tryd.prog W .any base t v := hval0
  have hW' := hW
  obtain ⟨p, q, hA0, hV, rfl, hfz, hnd⟩ := hW
  have hA : DataW.TrodAll enc Tryd.prog W 0 (fun _ => true) true Tryd.f4.params.toList args.toList ds p := hA0
  rw [Tryd.params4] at hA hval
  obtain ⟨v0, v1, v2, d0, d1, d2, p0, p1, p2, rfl, rfl, rfl, h0, h1, h2⟩ := trodAll_three hA
  obtain ⟨rfl, rfl⟩ := trodVars_none hV
  obtain ⟨A0, n0, c0, l0, rfl, hr0, _, hl0⟩ := open_i64s Tryd.underlying22 Tryd.underlying3 cellsI (hval 0 22 v0 rfl rfl) h0
  obtain ⟨x1, rfl, _, _, hw1⟩ := open_int Tryd.underlying3 (hval 1 3 v1 rfl rfl) h1
  obtain ⟨x2, rfl, _, _, hw2⟩ := open_int Tryd.underlying3 (hval 2 3 v2 rfl rfl) h2
  clear hA0 hval0
  refine (made_any A0 n0 c0 l0 x1 x2 W hr0 (rounds_of_laid hL)).mono fun e W' ⟨he, hb⟩ => ?_
  subst he
  exact law_post laidOut (by kernel_rfl) Tryd.underlying4 (by kernel_rfl) rfl hW' rfl hb
theorem over : Rows.StatementMadeSaid :=
  OpenClaim.holds_of_wide 4 Tryd.f4 rfl rfl rfl rfl rfl rfl rfl ⟨rfl, rfl, rfl, rfl, rfl⟩ rfl rfl rfl rfl rfl (by kernel_rfl) Tryd.func4 (by kernel_rfl)
    (of_decide_eq_true (by kernel_rfl)) (by unfold Func.isWrapper; first | (rw [if_pos (by decide +kernel)]; kernel_rfl) | (rw [if_neg (by decide +kernel)]; exact ⟨rfl, rfl⟩))
    (fun os started H enc _ => lifted os started H enc)
/-- No parameter wants a stand-in; the program's own looks are off. -/
theorem plain (f : FuncId) (fn : Func) (hf : Tryd.pinned.checked.prog.funcNamed "trustflow/trustflowlaw03.StatementMade" = some f) (hfn : Tryd.pinned.checked.prog.funcs[f]? = some fn) :
    true = Tryd.pinned.checked.prog.looks [] ∧ ∀ (j : Nat) t, fn.params[j]? = some t → Tryd.pinned.checked.prog.wantsStandIn t = false := by
  obtain rfl : f = 4 := Option.some.inj ((show Tryd.prog.funcNamed "trustflow/trustflowlaw03.StatementMade" = some 4 by kernel_rfl).symm.trans hf) |>.symm
  obtain rfl : fn = Tryd.f4 := (Option.some.inj (Tryd.func4.symm.trans hfn)).symm
  refine ⟨by kernel_rfl, fun j t ht => ?_⟩
  rw [Tryd.params4] at ht
  have hm : t ∈ [22, 3, 3] := by simpa using Array.mem_of_getElem? ht
  have hall : ([22, 3, 3].all fun u => !Tryd.prog.wantsStandIn u) = true := by kernel_rfl
  exact (show Tryd.prog.wantsStandIn t = false by simpa using List.all_eq_true.1 hall t hm)
theorem card_holds : Rows.StatementMadeCardSaid :=
  Claim7.holds_tied_plain_at .later [] _ _ _ _ over (fun _ h => by cases h) (by kernel_rfl) (fun _ h => by cases h) statementMade_row_tie rfl ⟨rfl, rfl⟩ (by kernel_rfl) rfl plain (by kernel_rfl)
end Go.Proofs.YtnokhjpileamaaaDoor.statementMade
