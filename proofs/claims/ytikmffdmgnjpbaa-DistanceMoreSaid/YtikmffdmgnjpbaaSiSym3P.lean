import Derived.Test.YtikmffdmgnjpbaaPackAT
/- slices.symMergeCmpFunc over numbers where both parts have more elements: the second one is the shorter one. -/
namespace Go.Proofs.Ytikmffdmgnjpbaa
open Go.Shelf Go.RowKit Go.Lib Go.Sort
variable {P : Program} {α : Type} [Inhabited α]
set_option maxHeartbeats 8000000 in
set_option maxRecDepth 1000000 in
theorem sym_big_i (L : StPI P) (enc : α × Nat → Value) (cf : α → α → Int) (lt : α → α → Bool) (hlt : ∀ x y, lt x y = decide (cf x y < 0)) (g : Nat) (cb : Array Value) (blk off cap a m b : Nat) (d0 d : Array (α × Nat)) (w0 w : World)
    (eg : ∀ args w, (callFunc g args).run P w = .ok (.enter g args) w) (hcmp : CmpLays1 P g cb enc (fun x y => cf x.1 y.1) blk off d0.size w0) (hS : SWO lt)
    (R : Row1 enc w0 blk off d0) (hs : d0.size = d.size) (S : SW enc w0 blk off d w) (hm1 : b ≠ m + 1) (hmid : (a + b) / 2 < m) (IH : ∀ (a' m' b' : Nat) (d' : Array (α × Nat)) (w' : World), b' - a' < b - a → d'.size = d.size → SW enc w0 blk off d' w' → a' < m' → m' < b' → b' ≤ d.size →
      Calls P 51 #[.slice (some ⟨blk, off, none⟩) d.size cap, .int .i64 a', .int .i64 m', .int .i64 b', .func (.func g) #[] cb] w' fun e w2 => e = .returned (.tuple #[]) ∧ ∃ d2, Mrg lt a' m' b' d' d2 ∧ SW enc w0 blk off d2 w2) (ham : a < m) (hmb : m < b) (hb : b ≤ d.size) (hsz : d.size ≤ 1000000) :
    Calls P 51 #[.slice (some ⟨blk, off, none⟩) d.size cap, .int .i64 a, .int .i64 m, .int .i64 b, .func (.func g) #[] cb] w fun e w' => e = .returned (.tuple #[]) ∧ ∃ d', Mrg lt a m b d d' ∧ SW enc w0 blk off d' w' := by
  have S0 : Aside (SW enc w0 blk off d w) := S
  have HC : Aside _ := hcmp
  have HLT : Aside (∀ x y, lt x y = decide (cf x y < 0)) := hlt
  clear S hcmp hlt
  have mixed := L.mixed; have t0 := L.t0; have a0 := L.a0; have z0 := L.z0; have v0 := L.v0; have t3 := L.t3; have a3 := L.a3; have z3 := L.z3; have v3 := L.v3; have t4 := L.t4; have a4 := L.a4; have z4 := L.z4; have v4 := L.v4; have t22 := L.t22; have a22 := L.a22; have z22 := L.z22; have v22 := L.v22; have t25 := L.t25; have a25 := L.a25; have z25 := L.z25; have v25 := L.v25; have t39 := L.t39; have a39 := L.a39; have z39 := L.z39; have v39 := L.v39
  have u22 := run_underlying L.t22
  have hcl0 := R.hO.cells
  simp only [Value.cells] at hcl0
  have hst := R.hO.store P
  have RO : Aside (∀ (x y z : Nat) (d' : Array (α × Nat)) (w' : World), d'.size = d.size → SW enc w0 blk off d' w' → x < y → y < z → z ≤ d.size →
      Calls P 58 #[.slice (some ⟨blk, off, none⟩) d.size cap, .int .i64 x, .int .i64 y, .int .i64 z, .func (.func g) #[] cb] w' fun e w2 => e = .returned (.tuple #[]) ∧ ∃ d2, Rot x y z d' d2 ∧ SW enc w0 blk off d2 w2) := fun x y z d' w' h1 h2 h3 h4 h5 => by
    have h := rotate_sti L enc g cb blk off cap x y z d0 d' w0 w' R (hs.trans h1.symm) h2 h3 h4 (by rw [h1]; exact h5) (by rw [h1]; exact hsz)
    rw [h1] at h
    exact h
  have HI : Aside _ := IH
  clear IH
  have FG := L.fSym
  have er : ∀ args w, (callFunc 58 args).run P w = .ok (.enter 58 args) w := enters_of L.fRot (by kernel_rfl) rfl
  have es : ∀ args w, (callFunc 51 args).run P w = .ok (.enter 51 args) w := enters_of L.fSym (by kernel_rfl) rfl
  clear L
  obtain ⟨q0, hq0⟩ : ∃ q, q = m - a := ⟨_, rfl⟩
  obtain ⟨q1, hq1⟩ : ∃ q, q = b - m := ⟨_, rfl⟩
  obtain ⟨mid, hmi⟩ : ∃ q, q = (a + b) / 2 := ⟨_, rfl⟩
  obtain ⟨n0, hn0⟩ : ∃ q, q = mid + m := ⟨_, rfl⟩
  obtain ⟨p0, hp0⟩ : ∃ q, q = mid + m - 1 := ⟨_, rfl⟩
  obtain ⟨st, hst⟩ : ∃ q, q = mid + m - b := ⟨_, rfl⟩
  obtain ⟨r0, hr0⟩ : ∃ q, q = mid := ⟨_, rfl⟩
  have e0 : IntKind.i64.wrap ((m : Int) - (a : Int)) = (q0 : Int) := by rw [IntKind.wrap_i64]; omega
  have h0 : (q0 : Int) ≠ 1 := by omega
  have e1 : IntKind.i64.wrap ((b : Int) - (m : Int)) = (q1 : Int) := by rw [IntKind.wrap_i64]; omega
  have h1 : (q1 : Int) ≠ 1 := by omega
  have e2 : ((a : Int) + (b : Int)) / 2 = (mid : Int) := by omega
  have e3 : IntKind.i64.wrap ((mid : Int) + (m : Int)) = (n0 : Int) := by rw [IntKind.wrap_i64]; omega
  have e4 : IntKind.i64.wrap ((n0 : Int) - 1) = (p0 : Int) := by rw [IntKind.wrap_i64]; omega
  have e5 : IntKind.i64.wrap ((n0 : Int) - (b : Int)) = (st : Int) := by rw [IntKind.wrap_i64]; omega
  have h5 : (mid : Int) < (m : Int) := by omega
  have HF : Aside (n0 = mid + m ∧ p0 + 1 = mid + m ∧ a < mid ∧ mid < b ∧ a ≤ st ∧ st ≤ r0 ∧ r0 ≤ mid ∧ r0 ≤ m ∧ mid + m - st ≤ b ∧ m ≤ mid + m - r0 ∧ (st = a ∨ mid + m - st = b) ∧ (r0 = m ∨ mid + m - r0 = m) ∧ b - mid < b - a ∧ mid - a < b - a) := ⟨hn0, by omega, by omega, by omega, by omega, by omega, by omega, by omega, by omega, by omega, by omega, by omega, by omega, by omega⟩
  clear hq0 hq1 hmi hn0 hp0 hm1 hmid
  have HST : Aside (r0 = mid) := hr0
  clear hst hr0
  go_enter FG, Try.ntmps51
  go_wp2
  clear e0 e1 h0 h1 e2 e3 e4 h5 e5
  go_loopg [20, 21] (b + m) (fun kx vi vj wr => ∃ i j : Nat, vi = .int .i64 i ∧ vj = .int .i64 j ∧ st ≤ i ∧ i ≤ j ∧ j ≤ r0 ∧ j - i ≤ kx ∧ Aside (SW enc w0 blk off d wr) ∧ Aside ((i = st ∨ ltp lt d[p0 - (i - 1)]! d[i - 1]! = false) ∧ (j = r0 ∨ ltp lt d[p0 - j]! d[j]! = true)))
  case atStart => exact ⟨st, mid, rfl, rfl, by have := HF.out; have := HST.out; omega, by have := HF.out; have := HST.out; omega, by have := HF.out; have := HST.out; omega, by have := HF.out; omega, S0, .inl rfl, .inl HST.out.symm⟩
  case round =>
    clear S0
    obtain ⟨i, j, rfl, rfl, hmi, hij, hjb, hkx, S1, Q1⟩ := hrel
    by_cases hl : i < j
    · obtain ⟨h, hh⟩ : ∃ h, h = (i + j) / 2 := ⟨_, rfl⟩
      have eh : ((i : Int) + (j : Int)) / 2 = (h : Int) := by omega
      have hh1 : i ≤ h := by omega
      have hh2 : h < j := by omega
      clear hh
      have HF2 := HF.out
      obtain ⟨pc, hpc⟩ : ∃ q, q = p0 - h := ⟨_, rfl⟩
      have ep : IntKind.i64.wrap ((p0 : Int) - (h : Int)) = (pc : Int) := by rw [IntKind.wrap_i64]; omega
      have hpd : pc < d.size := by omega
      have hhd : h < d.size := by omega
      have HPC : Aside (pc = p0 - h) := hpc
      clear hpc HF2
      have ea1 : ((pc : Int)).toNat = pc := by omega
      have pa1 : (0 : Int) ≤ (pc : Int) := by omega
      have ba1 : (pc : Int) < (d.size : Int) := by omega
      have ra1 : IntKind.i64.wrap ((pc : Int)) = (pc : Int) := by rw [IntKind.wrap_i64]; omega
      have ea2 : ((h : Int)).toNat = h := by omega
      have pa2 : (0 : Int) ≤ (h : Int) := by omega
      have ba2 : (h : Int) < (d.size : Int) := by omega
      have ra2 : IntKind.i64.wrap ((h : Int)) = (h : Int) := by rw [IntKind.wrap_i64]; omega
      by_cases hlv : cf d[pc]!.1 d[h]!.1 < 0
      · obtain ⟨x3, hx3⟩ : ∃ x, x = d[pc]! := ⟨_, rfl⟩
        obtain ⟨y3, hy3⟩ : ∃ x, x = d[h]! := ⟨_, rfl⟩
        have l3a := S1.out.cl R (by omega) (pc) (by omega)
        have l3b := S1.out.cl R (by omega) (h) (by omega)
        rw [← hx3] at l3a
        rw [← hy3] at l3b
        have hc3 := S1.out.cmp HC.out (by omega) x3 y3
        have hv3 : cf x3.1 y3.1 < 0 := by rw [hx3, hy3]; exact hlv
        have hd3 : decide (cf x3.1 y3.1 < 0) = true := decide_eq_true hv3
        have HLV := Lib.hid hlv
        clear hx3 hy3 hlv
        go_wp2_with fail
        go_quiet_grown (first | (go_at_fn g; refine Calls.grown_of (hc3 _ _)))
        have SU : Aside (SW enc w0 blk off d (grow (wr.drewN nq) osq)) := S1.out.grown nq osq
        clear l3a l3b hc3 S1
        generalize grow (wr.drewN nq) osq = wu at SU ⊢
        clear nq osq
        go_wp2
        go_roundg (h - i)
        case measure => omega
        case rel => exact ⟨i, h, by go_num, by go_num, hmi, by omega, by omega, Nat.le_refl _, SU, Q1.out.1, .inr (by rw [← HPC.out]; unfold ltp; rw [HLT.out]; exact decide_eq_true HLV.out)⟩
      · obtain ⟨x3, hx3⟩ : ∃ x, x = d[pc]! := ⟨_, rfl⟩
        obtain ⟨y3, hy3⟩ : ∃ x, x = d[h]! := ⟨_, rfl⟩
        have l3a := S1.out.cl R (by omega) (pc) (by omega)
        have l3b := S1.out.cl R (by omega) (h) (by omega)
        rw [← hx3] at l3a
        rw [← hy3] at l3b
        have hc3 := S1.out.cmp HC.out (by omega) x3 y3
        have hv3 : ¬ cf x3.1 y3.1 < 0 := by rw [hx3, hy3]; exact hlv
        have hd3 : decide (cf x3.1 y3.1 < 0) = false := decide_eq_false hv3
        have HLV := Lib.hid hlv
        clear hx3 hy3 hlv
        go_wp2_with fail
        go_quiet_grown (first | (go_at_fn g; refine Calls.grown_of (hc3 _ _)))
        have SU : Aside (SW enc w0 blk off d (grow (wr.drewN nq) osq)) := S1.out.grown nq osq
        clear l3a l3b hc3 S1
        generalize grow (wr.drewN nq) osq = wu at SU ⊢
        clear nq osq
        go_wp2
        go_roundg (j - (h + 1))
        case measure => omega
        case rel => exact ⟨h + 1, j, by go_num, by go_num, by omega, by omega, hjb, Nat.le_refl _, SU, .inr (by rw [Nat.add_sub_cancel, ← HPC.out]; unfold ltp; rw [HLT.out]; exact decide_eq_false (by have := HLV.out; omega)), Q1.out.2⟩
    · have hi2 : i = j := by omega
      subst hi2
      clear hkx hij
      have HF2 := HF.out
      obtain ⟨en, hen⟩ : ∃ q, q = mid + m - i := ⟨_, rfl⟩
      have e6 : IntKind.i64.wrap ((n0 : Int) - (i : Int)) = (en : Int) := by rw [IntKind.wrap_i64]; omega
      have HE : Aside (st ≤ i ∧ i ≤ r0 ∧ a ≤ i ∧ i ≤ mid ∧ i ≤ m ∧ m ≤ en ∧ mid ≤ en ∧ en ≤ b ∧ i + (en - m) = mid ∧ (i = a ∨ en = b ∨ ltp lt d[en]! d[i - 1]! = false) ∧ (i = m ∨ en = m ∨ ltp lt d[en - 1]! d[i]! = true)) := by
        have q := Q1.out
        refine ⟨hmi, hjb, by omega, by omega, by omega, by omega, by omega, by omega, by omega, ?_, ?_⟩
        · rcases q.1 with q | q
          · by_cases h1 : st = a
            · exact .inl (by omega)
            · exact .inr (.inl (by omega))
          · by_cases h1 : i = a
            · exact .inl h1
            · rw [show p0 - (i - 1) = en by omega] at q
              exact .inr (.inr q)
        · rcases q.2 with q | q
          · by_cases h1 : r0 = m
            · exact .inl (by omega)
            · exact .inr (.inl (by omega))
          · rw [show p0 - i = en - 1 by omega] at q
            exact .inr (.inr q)
      clear hen HF2 hmi hjb Q1
      by_cases k1 : i < m
      · have k1z : (i : Int) < (m : Int) := by omega
        have k1d : decide ((i : Int) < (m : Int)) = true := decide_eq_true k1z
        by_cases k2 : m < en
        · have k2z : (m : Int) < (en : Int) := by omega
          have k2d : decide ((m : Int) < (en : Int)) = true := decide_eq_true k2z
          go_wp2_with fail
          refine (RO.out i m en d wr rfl S1.out k1 k2 (by have := HE.out; omega)).mono ?_
          rintro e wa ⟨rfl, d1, hr, hS1⟩
          have SA := Lib.hid hS1
          have HR1 : Hid (Rot i m en d d1 ∧ d1.size = d.size ∧ PermIn a b d d1) := Lib.hid ⟨hr, hr.1, permIn_mono d d1 i en a b HE.out.2.2.1 HE.out.2.2.2.2.2.2.2.1 hb (hr.perm (by omega) (by omega) (by have := HE.out; omega))⟩
          clear hS1 hr S1
          by_cases k3 : a < i
          · have k3z : (a : Int) < (i : Int) := by omega
            have k3d : decide ((a : Int) < (i : Int)) = true := decide_eq_true k3z
            by_cases k4 : i < mid
            · have k4z : (i : Int) < (mid : Int) := by omega
              have k4d : decide ((i : Int) < (mid : Int)) = true := decide_eq_true k4z
              go_wp2_with fail
              refine (HI.out a i mid d1 _ HF.out.2.2.2.2.2.2.2.2.2.2.2.2.2 HR1.out.2.1 SA.out k3 k4 (by have := HF.out; omega)).mono ?_
              rintro e wb ⟨rfl, d2, hm, hS2⟩
              have SB := Lib.hid hS2
              have HM1 := Lib.hid hm
              have HD2 : Hid (d2.size = d.size) := Lib.hid (hm.1.1.trans HR1.out.2.1)
              clear hS2 hm SA
              by_cases k5 : mid < en
              · have k5z : (mid : Int) < (en : Int) := by omega
                have k5d : decide ((mid : Int) < (en : Int)) = true := decide_eq_true k5z
                by_cases k6 : en < b
                · have k6z : (en : Int) < (b : Int) := by omega
                  have k6d : decide ((en : Int) < (b : Int)) = true := decide_eq_true k6z
                  go_wp2_with fail
                  refine (HI.out mid en b d2 _ HF.out.2.2.2.2.2.2.2.2.2.2.2.2.1 HD2.out SB.out k5 k6 hb).mono ?_
                  rintro e wc ⟨rfl, d3, hm, hS3⟩
                  have SC := Lib.hid hS3
                  have HM2 := Lib.hid hm
                  clear hS3 hm SB
                  go_wp2
                  go_end0
                  have HE2 := HE.out
                  have HF2 := HF.out
                  refine ⟨rfl, d3, ⟨?_, fun hT hL hR => ?_⟩, SC.out⟩
                  · exact permIn_trans _ _ _ a b HR1.out.2.2 (permIn_trans _ _ _ a b (permIn_mono d1 d2 a mid a b (Nat.le_refl _) (by omega) (by rw [HR1.out.2.1]; exact hb) HM1.out.1) (permIn_mono d2 d3 mid b a b (by omega) (Nat.le_refl _) (by rw [HD2.out]; exact hb) HM2.out.1))
                  · have hC := Cut.of hS hb HE2.2.2.1 HE2.2.2.2.2.1 HE2.2.2.2.2.2.1 HE2.2.2.2.2.2.2.2.1 HE2.2.2.2.2.2.2.2.2.2.1 HE2.2.2.2.2.2.2.2.2.2.2 HR1.out.1 hT hL hR
                    rw [HE2.2.2.2.2.2.2.2.2.1] at hC
                    exact Cut.done HE2.2.2.1 HE2.2.2.2.1 HE2.2.2.2.2.2.2.1 HE2.2.2.2.2.2.2.2.1 (by rw [HR1.out.2.1]; exact hb) hC (.inl HM1.out) (.inl HM2.out)
                · have k6z : ¬ (en : Int) < (b : Int) := by omega
                  have k6d : decide ((en : Int) < (b : Int)) = false := decide_eq_false k6z
                  have SC := SB
                  go_wp2
                  go_end0
                  have HE2 := HE.out
                  have HF2 := HF.out
                  refine ⟨rfl, d2, ⟨?_, fun hT hL hR => ?_⟩, SC.out⟩
                  · exact permIn_trans _ _ _ a b HR1.out.2.2 (permIn_trans _ _ _ a b (permIn_mono d1 d2 a mid a b (Nat.le_refl _) (by omega) (by rw [HR1.out.2.1]; exact hb) HM1.out.1) (permIn_refl _ _ _))
                  · have hC := Cut.of hS hb HE2.2.2.1 HE2.2.2.2.2.1 HE2.2.2.2.2.2.1 HE2.2.2.2.2.2.2.2.1 HE2.2.2.2.2.2.2.2.2.2.1 HE2.2.2.2.2.2.2.2.2.2.2 HR1.out.1 hT hL hR
                    rw [HE2.2.2.2.2.2.2.2.2.1] at hC
                    exact Cut.done HE2.2.2.1 HE2.2.2.2.1 HE2.2.2.2.2.2.2.1 HE2.2.2.2.2.2.2.2.1 (by rw [HR1.out.2.1]; exact hb) hC (.inl HM1.out) (.inr ⟨rfl, .inr (by omega)⟩)
              · have k5z : ¬ (mid : Int) < (en : Int) := by omega
                have k5d : decide ((mid : Int) < (en : Int)) = false := decide_eq_false k5z
                have SC := SB
                go_wp2
                go_end0
                have HE2 := HE.out
                have HF2 := HF.out
                refine ⟨rfl, d2, ⟨?_, fun hT hL hR => ?_⟩, SC.out⟩
                · exact permIn_trans _ _ _ a b HR1.out.2.2 (permIn_trans _ _ _ a b (permIn_mono d1 d2 a mid a b (Nat.le_refl _) (by omega) (by rw [HR1.out.2.1]; exact hb) HM1.out.1) (permIn_refl _ _ _))
                · have hC := Cut.of hS hb HE2.2.2.1 HE2.2.2.2.2.1 HE2.2.2.2.2.2.1 HE2.2.2.2.2.2.2.2.1 HE2.2.2.2.2.2.2.2.2.2.1 HE2.2.2.2.2.2.2.2.2.2.2 HR1.out.1 hT hL hR
                  rw [HE2.2.2.2.2.2.2.2.2.1] at hC
                  exact Cut.done HE2.2.2.1 HE2.2.2.2.1 HE2.2.2.2.2.2.2.1 HE2.2.2.2.2.2.2.2.1 (by rw [HR1.out.2.1]; exact hb) hC (.inl HM1.out) (.inr ⟨rfl, .inl (by omega)⟩)
            · have k4z : ¬ (i : Int) < (mid : Int) := by omega
              have k4d : decide ((i : Int) < (mid : Int)) = false := decide_eq_false k4z
              have SB := SA
              have HD2 : Hid (d1.size = d.size) := Lib.hid HR1.out.2.1
              by_cases k5 : mid < en
              · have k5z : (mid : Int) < (en : Int) := by omega
                have k5d : decide ((mid : Int) < (en : Int)) = true := decide_eq_true k5z
                by_cases k6 : en < b
                · have k6z : (en : Int) < (b : Int) := by omega
                  have k6d : decide ((en : Int) < (b : Int)) = true := decide_eq_true k6z
                  go_wp2_with fail
                  refine (HI.out mid en b d1 _ HF.out.2.2.2.2.2.2.2.2.2.2.2.2.1 HD2.out SB.out k5 k6 hb).mono ?_
                  rintro e wc ⟨rfl, d3, hm, hS3⟩
                  have SC := Lib.hid hS3
                  have HM2 := Lib.hid hm
                  clear hS3 hm SB
                  go_wp2
                  go_end0
                  have HE2 := HE.out
                  have HF2 := HF.out
                  refine ⟨rfl, d3, ⟨?_, fun hT hL hR => ?_⟩, SC.out⟩
                  · exact permIn_trans _ _ _ a b HR1.out.2.2 (permIn_trans _ _ _ a b (permIn_refl _ _ _) (permIn_mono d1 d3 mid b a b (by omega) (Nat.le_refl _) (by rw [HD2.out]; exact hb) HM2.out.1))
                  · have hC := Cut.of hS hb HE2.2.2.1 HE2.2.2.2.2.1 HE2.2.2.2.2.2.1 HE2.2.2.2.2.2.2.2.1 HE2.2.2.2.2.2.2.2.2.2.1 HE2.2.2.2.2.2.2.2.2.2.2 HR1.out.1 hT hL hR
                    rw [HE2.2.2.2.2.2.2.2.2.1] at hC
                    exact Cut.done HE2.2.2.1 HE2.2.2.2.1 HE2.2.2.2.2.2.2.1 HE2.2.2.2.2.2.2.2.1 (by rw [HR1.out.2.1]; exact hb) hC (.inr ⟨rfl, .inr (by omega)⟩) (.inl HM2.out)
                · have k6z : ¬ (en : Int) < (b : Int) := by omega
                  have k6d : decide ((en : Int) < (b : Int)) = false := decide_eq_false k6z
                  have SC := SB
                  go_wp2
                  go_end0
                  have HE2 := HE.out
                  have HF2 := HF.out
                  refine ⟨rfl, d1, ⟨?_, fun hT hL hR => ?_⟩, SC.out⟩
                  · exact permIn_trans _ _ _ a b HR1.out.2.2 (permIn_trans _ _ _ a b (permIn_refl _ _ _) (permIn_refl _ _ _))
                  · have hC := Cut.of hS hb HE2.2.2.1 HE2.2.2.2.2.1 HE2.2.2.2.2.2.1 HE2.2.2.2.2.2.2.2.1 HE2.2.2.2.2.2.2.2.2.2.1 HE2.2.2.2.2.2.2.2.2.2.2 HR1.out.1 hT hL hR
                    rw [HE2.2.2.2.2.2.2.2.2.1] at hC
                    exact Cut.done HE2.2.2.1 HE2.2.2.2.1 HE2.2.2.2.2.2.2.1 HE2.2.2.2.2.2.2.2.1 (by rw [HR1.out.2.1]; exact hb) hC (.inr ⟨rfl, .inr (by omega)⟩) (.inr ⟨rfl, .inr (by omega)⟩)
              · have k5z : ¬ (mid : Int) < (en : Int) := by omega
                have k5d : decide ((mid : Int) < (en : Int)) = false := decide_eq_false k5z
                have SC := SB
                go_wp2
                go_end0
                have HE2 := HE.out
                have HF2 := HF.out
                refine ⟨rfl, d1, ⟨?_, fun hT hL hR => ?_⟩, SC.out⟩
                · exact permIn_trans _ _ _ a b HR1.out.2.2 (permIn_trans _ _ _ a b (permIn_refl _ _ _) (permIn_refl _ _ _))
                · have hC := Cut.of hS hb HE2.2.2.1 HE2.2.2.2.2.1 HE2.2.2.2.2.2.1 HE2.2.2.2.2.2.2.2.1 HE2.2.2.2.2.2.2.2.2.2.1 HE2.2.2.2.2.2.2.2.2.2.2 HR1.out.1 hT hL hR
                  rw [HE2.2.2.2.2.2.2.2.2.1] at hC
                  exact Cut.done HE2.2.2.1 HE2.2.2.2.1 HE2.2.2.2.2.2.2.1 HE2.2.2.2.2.2.2.2.1 (by rw [HR1.out.2.1]; exact hb) hC (.inr ⟨rfl, .inr (by omega)⟩) (.inr ⟨rfl, .inl (by omega)⟩)
          · have k3z : ¬ (a : Int) < (i : Int) := by omega
            have k3d : decide ((a : Int) < (i : Int)) = false := decide_eq_false k3z
            have SB := SA
            have HD2 : Hid (d1.size = d.size) := Lib.hid HR1.out.2.1
            by_cases k5 : mid < en
            · have k5z : (mid : Int) < (en : Int) := by omega
              have k5d : decide ((mid : Int) < (en : Int)) = true := decide_eq_true k5z
              by_cases k6 : en < b
              · have k6z : (en : Int) < (b : Int) := by omega
                have k6d : decide ((en : Int) < (b : Int)) = true := decide_eq_true k6z
                go_wp2_with fail
                refine (HI.out mid en b d1 _ HF.out.2.2.2.2.2.2.2.2.2.2.2.2.1 HD2.out SB.out k5 k6 hb).mono ?_
                rintro e wc ⟨rfl, d3, hm, hS3⟩
                have SC := Lib.hid hS3
                have HM2 := Lib.hid hm
                clear hS3 hm SB
                go_wp2
                go_end0
                have HE2 := HE.out
                have HF2 := HF.out
                refine ⟨rfl, d3, ⟨?_, fun hT hL hR => ?_⟩, SC.out⟩
                · exact permIn_trans _ _ _ a b HR1.out.2.2 (permIn_trans _ _ _ a b (permIn_refl _ _ _) (permIn_mono d1 d3 mid b a b (by omega) (Nat.le_refl _) (by rw [HD2.out]; exact hb) HM2.out.1))
                · have hC := Cut.of hS hb HE2.2.2.1 HE2.2.2.2.2.1 HE2.2.2.2.2.2.1 HE2.2.2.2.2.2.2.2.1 HE2.2.2.2.2.2.2.2.2.2.1 HE2.2.2.2.2.2.2.2.2.2.2 HR1.out.1 hT hL hR
                  rw [HE2.2.2.2.2.2.2.2.2.1] at hC
                  exact Cut.done HE2.2.2.1 HE2.2.2.2.1 HE2.2.2.2.2.2.2.1 HE2.2.2.2.2.2.2.2.1 (by rw [HR1.out.2.1]; exact hb) hC (.inr ⟨rfl, .inl (by omega)⟩) (.inl HM2.out)
              · have k6z : ¬ (en : Int) < (b : Int) := by omega
                have k6d : decide ((en : Int) < (b : Int)) = false := decide_eq_false k6z
                have SC := SB
                go_wp2
                go_end0
                have HE2 := HE.out
                have HF2 := HF.out
                refine ⟨rfl, d1, ⟨?_, fun hT hL hR => ?_⟩, SC.out⟩
                · exact permIn_trans _ _ _ a b HR1.out.2.2 (permIn_trans _ _ _ a b (permIn_refl _ _ _) (permIn_refl _ _ _))
                · have hC := Cut.of hS hb HE2.2.2.1 HE2.2.2.2.2.1 HE2.2.2.2.2.2.1 HE2.2.2.2.2.2.2.2.1 HE2.2.2.2.2.2.2.2.2.2.1 HE2.2.2.2.2.2.2.2.2.2.2 HR1.out.1 hT hL hR
                  rw [HE2.2.2.2.2.2.2.2.2.1] at hC
                  exact Cut.done HE2.2.2.1 HE2.2.2.2.1 HE2.2.2.2.2.2.2.1 HE2.2.2.2.2.2.2.2.1 (by rw [HR1.out.2.1]; exact hb) hC (.inr ⟨rfl, .inl (by omega)⟩) (.inr ⟨rfl, .inr (by omega)⟩)
            · have k5z : ¬ (mid : Int) < (en : Int) := by omega
              have k5d : decide ((mid : Int) < (en : Int)) = false := decide_eq_false k5z
              have SC := SB
              go_wp2
              go_end0
              have HE2 := HE.out
              have HF2 := HF.out
              refine ⟨rfl, d1, ⟨?_, fun hT hL hR => ?_⟩, SC.out⟩
              · exact permIn_trans _ _ _ a b HR1.out.2.2 (permIn_trans _ _ _ a b (permIn_refl _ _ _) (permIn_refl _ _ _))
              · have hC := Cut.of hS hb HE2.2.2.1 HE2.2.2.2.2.1 HE2.2.2.2.2.2.1 HE2.2.2.2.2.2.2.2.1 HE2.2.2.2.2.2.2.2.2.2.1 HE2.2.2.2.2.2.2.2.2.2.2 HR1.out.1 hT hL hR
                rw [HE2.2.2.2.2.2.2.2.2.1] at hC
                exact Cut.done HE2.2.2.1 HE2.2.2.2.1 HE2.2.2.2.2.2.2.1 HE2.2.2.2.2.2.2.2.1 (by rw [HR1.out.2.1]; exact hb) hC (.inr ⟨rfl, .inl (by omega)⟩) (.inr ⟨rfl, .inl (by omega)⟩)
        · have k2z : ¬ (m : Int) < (en : Int) := by omega
          have k2d : decide ((m : Int) < (en : Int)) = false := decide_eq_false k2z
          obtain ⟨d1, hd1⟩ : ∃ x, x = d := ⟨_, rfl⟩
          have SA : Hid (SW enc w0 blk off d1 wr) := Lib.hid (by rw [hd1]; exact S1.out)
          have HR1 : Hid (Rot i m en d d1 ∧ d1.size = d.size ∧ PermIn a b d d1) := Lib.hid (by
            have h9 := HE.out
            rw [hd1]
            exact ⟨Rot.same (by omega), rfl, permIn_refl _ _ _⟩)
          clear hd1 S1
          by_cases k3 : a < i
          · have k3z : (a : Int) < (i : Int) := by omega
            have k3d : decide ((a : Int) < (i : Int)) = true := decide_eq_true k3z
            by_cases k4 : i < mid
            · have k4z : (i : Int) < (mid : Int) := by omega
              have k4d : decide ((i : Int) < (mid : Int)) = true := decide_eq_true k4z
              go_wp2_with fail
              refine (HI.out a i mid d1 _ HF.out.2.2.2.2.2.2.2.2.2.2.2.2.2 HR1.out.2.1 SA.out k3 k4 (by have := HF.out; omega)).mono ?_
              rintro e wb ⟨rfl, d2, hm, hS2⟩
              have SB := Lib.hid hS2
              have HM1 := Lib.hid hm
              have HD2 : Hid (d2.size = d.size) := Lib.hid (hm.1.1.trans HR1.out.2.1)
              clear hS2 hm SA
              by_cases k5 : mid < en
              · have k5z : (mid : Int) < (en : Int) := by omega
                have k5d : decide ((mid : Int) < (en : Int)) = true := decide_eq_true k5z
                by_cases k6 : en < b
                · have k6z : (en : Int) < (b : Int) := by omega
                  have k6d : decide ((en : Int) < (b : Int)) = true := decide_eq_true k6z
                  go_wp2_with fail
                  refine (HI.out mid en b d2 _ HF.out.2.2.2.2.2.2.2.2.2.2.2.2.1 HD2.out SB.out k5 k6 hb).mono ?_
                  rintro e wc ⟨rfl, d3, hm, hS3⟩
                  have SC := Lib.hid hS3
                  have HM2 := Lib.hid hm
                  clear hS3 hm SB
                  go_wp2
                  go_end0
                  have HE2 := HE.out
                  have HF2 := HF.out
                  refine ⟨rfl, d3, ⟨?_, fun hT hL hR => ?_⟩, SC.out⟩
                  · exact permIn_trans _ _ _ a b HR1.out.2.2 (permIn_trans _ _ _ a b (permIn_mono d1 d2 a mid a b (Nat.le_refl _) (by omega) (by rw [HR1.out.2.1]; exact hb) HM1.out.1) (permIn_mono d2 d3 mid b a b (by omega) (Nat.le_refl _) (by rw [HD2.out]; exact hb) HM2.out.1))
                  · have hC := Cut.of hS hb HE2.2.2.1 HE2.2.2.2.2.1 HE2.2.2.2.2.2.1 HE2.2.2.2.2.2.2.2.1 HE2.2.2.2.2.2.2.2.2.2.1 HE2.2.2.2.2.2.2.2.2.2.2 HR1.out.1 hT hL hR
                    rw [HE2.2.2.2.2.2.2.2.2.1] at hC
                    exact Cut.done HE2.2.2.1 HE2.2.2.2.1 HE2.2.2.2.2.2.2.1 HE2.2.2.2.2.2.2.2.1 (by rw [HR1.out.2.1]; exact hb) hC (.inl HM1.out) (.inl HM2.out)
                · have k6z : ¬ (en : Int) < (b : Int) := by omega
                  have k6d : decide ((en : Int) < (b : Int)) = false := decide_eq_false k6z
                  have SC := SB
                  go_wp2
                  go_end0
                  have HE2 := HE.out
                  have HF2 := HF.out
                  refine ⟨rfl, d2, ⟨?_, fun hT hL hR => ?_⟩, SC.out⟩
                  · exact permIn_trans _ _ _ a b HR1.out.2.2 (permIn_trans _ _ _ a b (permIn_mono d1 d2 a mid a b (Nat.le_refl _) (by omega) (by rw [HR1.out.2.1]; exact hb) HM1.out.1) (permIn_refl _ _ _))
                  · have hC := Cut.of hS hb HE2.2.2.1 HE2.2.2.2.2.1 HE2.2.2.2.2.2.1 HE2.2.2.2.2.2.2.2.1 HE2.2.2.2.2.2.2.2.2.2.1 HE2.2.2.2.2.2.2.2.2.2.2 HR1.out.1 hT hL hR
                    rw [HE2.2.2.2.2.2.2.2.2.1] at hC
                    exact Cut.done HE2.2.2.1 HE2.2.2.2.1 HE2.2.2.2.2.2.2.1 HE2.2.2.2.2.2.2.2.1 (by rw [HR1.out.2.1]; exact hb) hC (.inl HM1.out) (.inr ⟨rfl, .inr (by omega)⟩)
              · have k5z : ¬ (mid : Int) < (en : Int) := by omega
                have k5d : decide ((mid : Int) < (en : Int)) = false := decide_eq_false k5z
                have SC := SB
                go_wp2
                go_end0
                have HE2 := HE.out
                have HF2 := HF.out
                refine ⟨rfl, d2, ⟨?_, fun hT hL hR => ?_⟩, SC.out⟩
                · exact permIn_trans _ _ _ a b HR1.out.2.2 (permIn_trans _ _ _ a b (permIn_mono d1 d2 a mid a b (Nat.le_refl _) (by omega) (by rw [HR1.out.2.1]; exact hb) HM1.out.1) (permIn_refl _ _ _))
                · have hC := Cut.of hS hb HE2.2.2.1 HE2.2.2.2.2.1 HE2.2.2.2.2.2.1 HE2.2.2.2.2.2.2.2.1 HE2.2.2.2.2.2.2.2.2.2.1 HE2.2.2.2.2.2.2.2.2.2.2 HR1.out.1 hT hL hR
                  rw [HE2.2.2.2.2.2.2.2.2.1] at hC
                  exact Cut.done HE2.2.2.1 HE2.2.2.2.1 HE2.2.2.2.2.2.2.1 HE2.2.2.2.2.2.2.2.1 (by rw [HR1.out.2.1]; exact hb) hC (.inl HM1.out) (.inr ⟨rfl, .inl (by omega)⟩)
            · have k4z : ¬ (i : Int) < (mid : Int) := by omega
              have k4d : decide ((i : Int) < (mid : Int)) = false := decide_eq_false k4z
              have SB := SA
              have HD2 : Hid (d1.size = d.size) := Lib.hid HR1.out.2.1
              by_cases k5 : mid < en
              · have k5z : (mid : Int) < (en : Int) := by omega
                have k5d : decide ((mid : Int) < (en : Int)) = true := decide_eq_true k5z
                by_cases k6 : en < b
                · have k6z : (en : Int) < (b : Int) := by omega
                  have k6d : decide ((en : Int) < (b : Int)) = true := decide_eq_true k6z
                  go_wp2_with fail
                  refine (HI.out mid en b d1 _ HF.out.2.2.2.2.2.2.2.2.2.2.2.2.1 HD2.out SB.out k5 k6 hb).mono ?_
                  rintro e wc ⟨rfl, d3, hm, hS3⟩
                  have SC := Lib.hid hS3
                  have HM2 := Lib.hid hm
                  clear hS3 hm SB
                  go_wp2
                  go_end0
                  have HE2 := HE.out
                  have HF2 := HF.out
                  refine ⟨rfl, d3, ⟨?_, fun hT hL hR => ?_⟩, SC.out⟩
                  · exact permIn_trans _ _ _ a b HR1.out.2.2 (permIn_trans _ _ _ a b (permIn_refl _ _ _) (permIn_mono d1 d3 mid b a b (by omega) (Nat.le_refl _) (by rw [HD2.out]; exact hb) HM2.out.1))
                  · have hC := Cut.of hS hb HE2.2.2.1 HE2.2.2.2.2.1 HE2.2.2.2.2.2.1 HE2.2.2.2.2.2.2.2.1 HE2.2.2.2.2.2.2.2.2.2.1 HE2.2.2.2.2.2.2.2.2.2.2 HR1.out.1 hT hL hR
                    rw [HE2.2.2.2.2.2.2.2.2.1] at hC
                    exact Cut.done HE2.2.2.1 HE2.2.2.2.1 HE2.2.2.2.2.2.2.1 HE2.2.2.2.2.2.2.2.1 (by rw [HR1.out.2.1]; exact hb) hC (.inr ⟨rfl, .inr (by omega)⟩) (.inl HM2.out)
                · have k6z : ¬ (en : Int) < (b : Int) := by omega
                  have k6d : decide ((en : Int) < (b : Int)) = false := decide_eq_false k6z
                  have SC := SB
                  go_wp2
                  go_end0
                  have HE2 := HE.out
                  have HF2 := HF.out
                  refine ⟨rfl, d1, ⟨?_, fun hT hL hR => ?_⟩, SC.out⟩
                  · exact permIn_trans _ _ _ a b HR1.out.2.2 (permIn_trans _ _ _ a b (permIn_refl _ _ _) (permIn_refl _ _ _))
                  · have hC := Cut.of hS hb HE2.2.2.1 HE2.2.2.2.2.1 HE2.2.2.2.2.2.1 HE2.2.2.2.2.2.2.2.1 HE2.2.2.2.2.2.2.2.2.2.1 HE2.2.2.2.2.2.2.2.2.2.2 HR1.out.1 hT hL hR
                    rw [HE2.2.2.2.2.2.2.2.2.1] at hC
                    exact Cut.done HE2.2.2.1 HE2.2.2.2.1 HE2.2.2.2.2.2.2.1 HE2.2.2.2.2.2.2.2.1 (by rw [HR1.out.2.1]; exact hb) hC (.inr ⟨rfl, .inr (by omega)⟩) (.inr ⟨rfl, .inr (by omega)⟩)
              · have k5z : ¬ (mid : Int) < (en : Int) := by omega
                have k5d : decide ((mid : Int) < (en : Int)) = false := decide_eq_false k5z
                have SC := SB
                go_wp2
                go_end0
                have HE2 := HE.out
                have HF2 := HF.out
                refine ⟨rfl, d1, ⟨?_, fun hT hL hR => ?_⟩, SC.out⟩
                · exact permIn_trans _ _ _ a b HR1.out.2.2 (permIn_trans _ _ _ a b (permIn_refl _ _ _) (permIn_refl _ _ _))
                · have hC := Cut.of hS hb HE2.2.2.1 HE2.2.2.2.2.1 HE2.2.2.2.2.2.1 HE2.2.2.2.2.2.2.2.1 HE2.2.2.2.2.2.2.2.2.2.1 HE2.2.2.2.2.2.2.2.2.2.2 HR1.out.1 hT hL hR
                  rw [HE2.2.2.2.2.2.2.2.2.1] at hC
                  exact Cut.done HE2.2.2.1 HE2.2.2.2.1 HE2.2.2.2.2.2.2.1 HE2.2.2.2.2.2.2.2.1 (by rw [HR1.out.2.1]; exact hb) hC (.inr ⟨rfl, .inr (by omega)⟩) (.inr ⟨rfl, .inl (by omega)⟩)
          · have k3z : ¬ (a : Int) < (i : Int) := by omega
            have k3d : decide ((a : Int) < (i : Int)) = false := decide_eq_false k3z
            have SB := SA
            have HD2 : Hid (d1.size = d.size) := Lib.hid HR1.out.2.1
            by_cases k5 : mid < en
            · have k5z : (mid : Int) < (en : Int) := by omega
              have k5d : decide ((mid : Int) < (en : Int)) = true := decide_eq_true k5z
              by_cases k6 : en < b
              · have k6z : (en : Int) < (b : Int) := by omega
                have k6d : decide ((en : Int) < (b : Int)) = true := decide_eq_true k6z
                go_wp2_with fail
                refine (HI.out mid en b d1 _ HF.out.2.2.2.2.2.2.2.2.2.2.2.2.1 HD2.out SB.out k5 k6 hb).mono ?_
                rintro e wc ⟨rfl, d3, hm, hS3⟩
                have SC := Lib.hid hS3
                have HM2 := Lib.hid hm
                clear hS3 hm SB
                go_wp2
                go_end0
                have HE2 := HE.out
                have HF2 := HF.out
                refine ⟨rfl, d3, ⟨?_, fun hT hL hR => ?_⟩, SC.out⟩
                · exact permIn_trans _ _ _ a b HR1.out.2.2 (permIn_trans _ _ _ a b (permIn_refl _ _ _) (permIn_mono d1 d3 mid b a b (by omega) (Nat.le_refl _) (by rw [HD2.out]; exact hb) HM2.out.1))
                · have hC := Cut.of hS hb HE2.2.2.1 HE2.2.2.2.2.1 HE2.2.2.2.2.2.1 HE2.2.2.2.2.2.2.2.1 HE2.2.2.2.2.2.2.2.2.2.1 HE2.2.2.2.2.2.2.2.2.2.2 HR1.out.1 hT hL hR
                  rw [HE2.2.2.2.2.2.2.2.2.1] at hC
                  exact Cut.done HE2.2.2.1 HE2.2.2.2.1 HE2.2.2.2.2.2.2.1 HE2.2.2.2.2.2.2.2.1 (by rw [HR1.out.2.1]; exact hb) hC (.inr ⟨rfl, .inl (by omega)⟩) (.inl HM2.out)
              · have k6z : ¬ (en : Int) < (b : Int) := by omega
                have k6d : decide ((en : Int) < (b : Int)) = false := decide_eq_false k6z
                have SC := SB
                go_wp2
                go_end0
                have HE2 := HE.out
                have HF2 := HF.out
                refine ⟨rfl, d1, ⟨?_, fun hT hL hR => ?_⟩, SC.out⟩
                · exact permIn_trans _ _ _ a b HR1.out.2.2 (permIn_trans _ _ _ a b (permIn_refl _ _ _) (permIn_refl _ _ _))
                · have hC := Cut.of hS hb HE2.2.2.1 HE2.2.2.2.2.1 HE2.2.2.2.2.2.1 HE2.2.2.2.2.2.2.2.1 HE2.2.2.2.2.2.2.2.2.2.1 HE2.2.2.2.2.2.2.2.2.2.2 HR1.out.1 hT hL hR
                  rw [HE2.2.2.2.2.2.2.2.2.1] at hC
                  exact Cut.done HE2.2.2.1 HE2.2.2.2.1 HE2.2.2.2.2.2.2.1 HE2.2.2.2.2.2.2.2.1 (by rw [HR1.out.2.1]; exact hb) hC (.inr ⟨rfl, .inl (by omega)⟩) (.inr ⟨rfl, .inr (by omega)⟩)
            · have k5z : ¬ (mid : Int) < (en : Int) := by omega
              have k5d : decide ((mid : Int) < (en : Int)) = false := decide_eq_false k5z
              have SC := SB
              go_wp2
              go_end0
              have HE2 := HE.out
              have HF2 := HF.out
              refine ⟨rfl, d1, ⟨?_, fun hT hL hR => ?_⟩, SC.out⟩
              · exact permIn_trans _ _ _ a b HR1.out.2.2 (permIn_trans _ _ _ a b (permIn_refl _ _ _) (permIn_refl _ _ _))
              · have hC := Cut.of hS hb HE2.2.2.1 HE2.2.2.2.2.1 HE2.2.2.2.2.2.1 HE2.2.2.2.2.2.2.2.1 HE2.2.2.2.2.2.2.2.2.2.1 HE2.2.2.2.2.2.2.2.2.2.2 HR1.out.1 hT hL hR
                rw [HE2.2.2.2.2.2.2.2.2.1] at hC
                exact Cut.done HE2.2.2.1 HE2.2.2.2.1 HE2.2.2.2.2.2.2.1 HE2.2.2.2.2.2.2.2.1 (by rw [HR1.out.2.1]; exact hb) hC (.inr ⟨rfl, .inl (by omega)⟩) (.inr ⟨rfl, .inl (by omega)⟩)
      · have k1z : ¬ (i : Int) < (m : Int) := by omega
        have k1d : decide ((i : Int) < (m : Int)) = false := decide_eq_false k1z
        obtain ⟨d1, hd1⟩ : ∃ x, x = d := ⟨_, rfl⟩
        have SA : Hid (SW enc w0 blk off d1 wr) := Lib.hid (by rw [hd1]; exact S1.out)
        have HR1 : Hid (Rot i m en d d1 ∧ d1.size = d.size ∧ PermIn a b d d1) := Lib.hid (by
          have h9 := HE.out
          rw [hd1]
          exact ⟨Rot.same (by omega), rfl, permIn_refl _ _ _⟩)
        clear hd1 S1
        by_cases k3 : a < i
        · have k3z : (a : Int) < (i : Int) := by omega
          have k3d : decide ((a : Int) < (i : Int)) = true := decide_eq_true k3z
          by_cases k4 : i < mid
          · have k4z : (i : Int) < (mid : Int) := by omega
            have k4d : decide ((i : Int) < (mid : Int)) = true := decide_eq_true k4z
            go_wp2_with fail
            refine (HI.out a i mid d1 _ HF.out.2.2.2.2.2.2.2.2.2.2.2.2.2 HR1.out.2.1 SA.out k3 k4 (by have := HF.out; omega)).mono ?_
            rintro e wb ⟨rfl, d2, hm, hS2⟩
            have SB := Lib.hid hS2
            have HM1 := Lib.hid hm
            have HD2 : Hid (d2.size = d.size) := Lib.hid (hm.1.1.trans HR1.out.2.1)
            clear hS2 hm SA
            by_cases k5 : mid < en
            · have k5z : (mid : Int) < (en : Int) := by omega
              have k5d : decide ((mid : Int) < (en : Int)) = true := decide_eq_true k5z
              by_cases k6 : en < b
              · have k6z : (en : Int) < (b : Int) := by omega
                have k6d : decide ((en : Int) < (b : Int)) = true := decide_eq_true k6z
                go_wp2_with fail
                refine (HI.out mid en b d2 _ HF.out.2.2.2.2.2.2.2.2.2.2.2.2.1 HD2.out SB.out k5 k6 hb).mono ?_
                rintro e wc ⟨rfl, d3, hm, hS3⟩
                have SC := Lib.hid hS3
                have HM2 := Lib.hid hm
                clear hS3 hm SB
                go_wp2
                go_end0
                have HE2 := HE.out
                have HF2 := HF.out
                refine ⟨rfl, d3, ⟨?_, fun hT hL hR => ?_⟩, SC.out⟩
                · exact permIn_trans _ _ _ a b HR1.out.2.2 (permIn_trans _ _ _ a b (permIn_mono d1 d2 a mid a b (Nat.le_refl _) (by omega) (by rw [HR1.out.2.1]; exact hb) HM1.out.1) (permIn_mono d2 d3 mid b a b (by omega) (Nat.le_refl _) (by rw [HD2.out]; exact hb) HM2.out.1))
                · have hC := Cut.of hS hb HE2.2.2.1 HE2.2.2.2.2.1 HE2.2.2.2.2.2.1 HE2.2.2.2.2.2.2.2.1 HE2.2.2.2.2.2.2.2.2.2.1 HE2.2.2.2.2.2.2.2.2.2.2 HR1.out.1 hT hL hR
                  rw [HE2.2.2.2.2.2.2.2.2.1] at hC
                  exact Cut.done HE2.2.2.1 HE2.2.2.2.1 HE2.2.2.2.2.2.2.1 HE2.2.2.2.2.2.2.2.1 (by rw [HR1.out.2.1]; exact hb) hC (.inl HM1.out) (.inl HM2.out)
              · have k6z : ¬ (en : Int) < (b : Int) := by omega
                have k6d : decide ((en : Int) < (b : Int)) = false := decide_eq_false k6z
                have SC := SB
                go_wp2
                go_end0
                have HE2 := HE.out
                have HF2 := HF.out
                refine ⟨rfl, d2, ⟨?_, fun hT hL hR => ?_⟩, SC.out⟩
                · exact permIn_trans _ _ _ a b HR1.out.2.2 (permIn_trans _ _ _ a b (permIn_mono d1 d2 a mid a b (Nat.le_refl _) (by omega) (by rw [HR1.out.2.1]; exact hb) HM1.out.1) (permIn_refl _ _ _))
                · have hC := Cut.of hS hb HE2.2.2.1 HE2.2.2.2.2.1 HE2.2.2.2.2.2.1 HE2.2.2.2.2.2.2.2.1 HE2.2.2.2.2.2.2.2.2.2.1 HE2.2.2.2.2.2.2.2.2.2.2 HR1.out.1 hT hL hR
                  rw [HE2.2.2.2.2.2.2.2.2.1] at hC
                  exact Cut.done HE2.2.2.1 HE2.2.2.2.1 HE2.2.2.2.2.2.2.1 HE2.2.2.2.2.2.2.2.1 (by rw [HR1.out.2.1]; exact hb) hC (.inl HM1.out) (.inr ⟨rfl, .inr (by omega)⟩)
            · have k5z : ¬ (mid : Int) < (en : Int) := by omega
              have k5d : decide ((mid : Int) < (en : Int)) = false := decide_eq_false k5z
              have SC := SB
              go_wp2
              go_end0
              have HE2 := HE.out
              have HF2 := HF.out
              refine ⟨rfl, d2, ⟨?_, fun hT hL hR => ?_⟩, SC.out⟩
              · exact permIn_trans _ _ _ a b HR1.out.2.2 (permIn_trans _ _ _ a b (permIn_mono d1 d2 a mid a b (Nat.le_refl _) (by omega) (by rw [HR1.out.2.1]; exact hb) HM1.out.1) (permIn_refl _ _ _))
              · have hC := Cut.of hS hb HE2.2.2.1 HE2.2.2.2.2.1 HE2.2.2.2.2.2.1 HE2.2.2.2.2.2.2.2.1 HE2.2.2.2.2.2.2.2.2.2.1 HE2.2.2.2.2.2.2.2.2.2.2 HR1.out.1 hT hL hR
                rw [HE2.2.2.2.2.2.2.2.2.1] at hC
                exact Cut.done HE2.2.2.1 HE2.2.2.2.1 HE2.2.2.2.2.2.2.1 HE2.2.2.2.2.2.2.2.1 (by rw [HR1.out.2.1]; exact hb) hC (.inl HM1.out) (.inr ⟨rfl, .inl (by omega)⟩)
          · have k4z : ¬ (i : Int) < (mid : Int) := by omega
            have k4d : decide ((i : Int) < (mid : Int)) = false := decide_eq_false k4z
            have SB := SA
            have HD2 : Hid (d1.size = d.size) := Lib.hid HR1.out.2.1
            by_cases k5 : mid < en
            · have k5z : (mid : Int) < (en : Int) := by omega
              have k5d : decide ((mid : Int) < (en : Int)) = true := decide_eq_true k5z
              by_cases k6 : en < b
              · have k6z : (en : Int) < (b : Int) := by omega
                have k6d : decide ((en : Int) < (b : Int)) = true := decide_eq_true k6z
                go_wp2_with fail
                refine (HI.out mid en b d1 _ HF.out.2.2.2.2.2.2.2.2.2.2.2.2.1 HD2.out SB.out k5 k6 hb).mono ?_
                rintro e wc ⟨rfl, d3, hm, hS3⟩
                have SC := Lib.hid hS3
                have HM2 := Lib.hid hm
                clear hS3 hm SB
                go_wp2
                go_end0
                have HE2 := HE.out
                have HF2 := HF.out
                refine ⟨rfl, d3, ⟨?_, fun hT hL hR => ?_⟩, SC.out⟩
                · exact permIn_trans _ _ _ a b HR1.out.2.2 (permIn_trans _ _ _ a b (permIn_refl _ _ _) (permIn_mono d1 d3 mid b a b (by omega) (Nat.le_refl _) (by rw [HD2.out]; exact hb) HM2.out.1))
                · have hC := Cut.of hS hb HE2.2.2.1 HE2.2.2.2.2.1 HE2.2.2.2.2.2.1 HE2.2.2.2.2.2.2.2.1 HE2.2.2.2.2.2.2.2.2.2.1 HE2.2.2.2.2.2.2.2.2.2.2 HR1.out.1 hT hL hR
                  rw [HE2.2.2.2.2.2.2.2.2.1] at hC
                  exact Cut.done HE2.2.2.1 HE2.2.2.2.1 HE2.2.2.2.2.2.2.1 HE2.2.2.2.2.2.2.2.1 (by rw [HR1.out.2.1]; exact hb) hC (.inr ⟨rfl, .inr (by omega)⟩) (.inl HM2.out)
              · have k6z : ¬ (en : Int) < (b : Int) := by omega
                have k6d : decide ((en : Int) < (b : Int)) = false := decide_eq_false k6z
                have SC := SB
                go_wp2
                go_end0
                have HE2 := HE.out
                have HF2 := HF.out
                refine ⟨rfl, d1, ⟨?_, fun hT hL hR => ?_⟩, SC.out⟩
                · exact permIn_trans _ _ _ a b HR1.out.2.2 (permIn_trans _ _ _ a b (permIn_refl _ _ _) (permIn_refl _ _ _))
                · have hC := Cut.of hS hb HE2.2.2.1 HE2.2.2.2.2.1 HE2.2.2.2.2.2.1 HE2.2.2.2.2.2.2.2.1 HE2.2.2.2.2.2.2.2.2.2.1 HE2.2.2.2.2.2.2.2.2.2.2 HR1.out.1 hT hL hR
                  rw [HE2.2.2.2.2.2.2.2.2.1] at hC
                  exact Cut.done HE2.2.2.1 HE2.2.2.2.1 HE2.2.2.2.2.2.2.1 HE2.2.2.2.2.2.2.2.1 (by rw [HR1.out.2.1]; exact hb) hC (.inr ⟨rfl, .inr (by omega)⟩) (.inr ⟨rfl, .inr (by omega)⟩)
            · have k5z : ¬ (mid : Int) < (en : Int) := by omega
              have k5d : decide ((mid : Int) < (en : Int)) = false := decide_eq_false k5z
              have SC := SB
              go_wp2
              go_end0
              have HE2 := HE.out
              have HF2 := HF.out
              refine ⟨rfl, d1, ⟨?_, fun hT hL hR => ?_⟩, SC.out⟩
              · exact permIn_trans _ _ _ a b HR1.out.2.2 (permIn_trans _ _ _ a b (permIn_refl _ _ _) (permIn_refl _ _ _))
              · have hC := Cut.of hS hb HE2.2.2.1 HE2.2.2.2.2.1 HE2.2.2.2.2.2.1 HE2.2.2.2.2.2.2.2.1 HE2.2.2.2.2.2.2.2.2.2.1 HE2.2.2.2.2.2.2.2.2.2.2 HR1.out.1 hT hL hR
                rw [HE2.2.2.2.2.2.2.2.2.1] at hC
                exact Cut.done HE2.2.2.1 HE2.2.2.2.1 HE2.2.2.2.2.2.2.1 HE2.2.2.2.2.2.2.2.1 (by rw [HR1.out.2.1]; exact hb) hC (.inr ⟨rfl, .inr (by omega)⟩) (.inr ⟨rfl, .inl (by omega)⟩)
        · have k3z : ¬ (a : Int) < (i : Int) := by omega
          have k3d : decide ((a : Int) < (i : Int)) = false := decide_eq_false k3z
          have SB := SA
          have HD2 : Hid (d1.size = d.size) := Lib.hid HR1.out.2.1
          by_cases k5 : mid < en
          · have k5z : (mid : Int) < (en : Int) := by omega
            have k5d : decide ((mid : Int) < (en : Int)) = true := decide_eq_true k5z
            by_cases k6 : en < b
            · have k6z : (en : Int) < (b : Int) := by omega
              have k6d : decide ((en : Int) < (b : Int)) = true := decide_eq_true k6z
              go_wp2_with fail
              refine (HI.out mid en b d1 _ HF.out.2.2.2.2.2.2.2.2.2.2.2.2.1 HD2.out SB.out k5 k6 hb).mono ?_
              rintro e wc ⟨rfl, d3, hm, hS3⟩
              have SC := Lib.hid hS3
              have HM2 := Lib.hid hm
              clear hS3 hm SB
              go_wp2
              go_end0
              have HE2 := HE.out
              have HF2 := HF.out
              refine ⟨rfl, d3, ⟨?_, fun hT hL hR => ?_⟩, SC.out⟩
              · exact permIn_trans _ _ _ a b HR1.out.2.2 (permIn_trans _ _ _ a b (permIn_refl _ _ _) (permIn_mono d1 d3 mid b a b (by omega) (Nat.le_refl _) (by rw [HD2.out]; exact hb) HM2.out.1))
              · have hC := Cut.of hS hb HE2.2.2.1 HE2.2.2.2.2.1 HE2.2.2.2.2.2.1 HE2.2.2.2.2.2.2.2.1 HE2.2.2.2.2.2.2.2.2.2.1 HE2.2.2.2.2.2.2.2.2.2.2 HR1.out.1 hT hL hR
                rw [HE2.2.2.2.2.2.2.2.2.1] at hC
                exact Cut.done HE2.2.2.1 HE2.2.2.2.1 HE2.2.2.2.2.2.2.1 HE2.2.2.2.2.2.2.2.1 (by rw [HR1.out.2.1]; exact hb) hC (.inr ⟨rfl, .inl (by omega)⟩) (.inl HM2.out)
            · have k6z : ¬ (en : Int) < (b : Int) := by omega
              have k6d : decide ((en : Int) < (b : Int)) = false := decide_eq_false k6z
              have SC := SB
              go_wp2
              go_end0
              have HE2 := HE.out
              have HF2 := HF.out
              refine ⟨rfl, d1, ⟨?_, fun hT hL hR => ?_⟩, SC.out⟩
              · exact permIn_trans _ _ _ a b HR1.out.2.2 (permIn_trans _ _ _ a b (permIn_refl _ _ _) (permIn_refl _ _ _))
              · have hC := Cut.of hS hb HE2.2.2.1 HE2.2.2.2.2.1 HE2.2.2.2.2.2.1 HE2.2.2.2.2.2.2.2.1 HE2.2.2.2.2.2.2.2.2.2.1 HE2.2.2.2.2.2.2.2.2.2.2 HR1.out.1 hT hL hR
                rw [HE2.2.2.2.2.2.2.2.2.1] at hC
                exact Cut.done HE2.2.2.1 HE2.2.2.2.1 HE2.2.2.2.2.2.2.1 HE2.2.2.2.2.2.2.2.1 (by rw [HR1.out.2.1]; exact hb) hC (.inr ⟨rfl, .inl (by omega)⟩) (.inr ⟨rfl, .inr (by omega)⟩)
          · have k5z : ¬ (mid : Int) < (en : Int) := by omega
            have k5d : decide ((mid : Int) < (en : Int)) = false := decide_eq_false k5z
            have SC := SB
            go_wp2
            go_end0
            have HE2 := HE.out
            have HF2 := HF.out
            refine ⟨rfl, d1, ⟨?_, fun hT hL hR => ?_⟩, SC.out⟩
            · exact permIn_trans _ _ _ a b HR1.out.2.2 (permIn_trans _ _ _ a b (permIn_refl _ _ _) (permIn_refl _ _ _))
            · have hC := Cut.of hS hb HE2.2.2.1 HE2.2.2.2.2.1 HE2.2.2.2.2.2.1 HE2.2.2.2.2.2.2.2.1 HE2.2.2.2.2.2.2.2.2.2.1 HE2.2.2.2.2.2.2.2.2.2.2 HR1.out.1 hT hL hR
              rw [HE2.2.2.2.2.2.2.2.2.1] at hC
              exact Cut.done HE2.2.2.1 HE2.2.2.2.1 HE2.2.2.2.2.2.2.1 HE2.2.2.2.2.2.2.2.1 (by rw [HR1.out.2.1]; exact hb) hC (.inr ⟨rfl, .inl (by omega)⟩) (.inr ⟨rfl, .inl (by omega)⟩)
end Go.Proofs.Ytikmffdmgnjpbaa
